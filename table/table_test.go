package table_test

import (
	"bytes"
	"math/rand"
	"slices"
	"testing"

	"claviger/api"
	"claviger/codec"
	"claviger/table"
)

func vault(id byte, gen uint64) api.Vault {
	return api.Vault{ID: api.ID{id}, Gen: gen, Pin: api.Digest{1}, Secret: []byte{id, 'a', 'b'}, Limit: 5, Owner: api.Digest{2}}
}

func row(ids ...byte) (l []api.Vault) {
	for _, id := range ids {
		l = append(l, vault(id, 1))
	}
	return l
}

func wrongs() []api.Vault {
	long := vault(1, 1)
	long.Secret = make([]byte, 65)
	used := vault(1, 1)
	used.Used = 5
	return []api.Vault{{}, {ID: api.ID{1}, Gen: 1}, vault(1, 0), vault(1, api.MaxCount+1), long, used}
}

func has(t *testing.T, x *table.Table, l []api.Vault) {
	t.Helper()
	if got := x.All(); !slices.EqualFunc(got, l, codec.Same) || x.Len() != len(l) {
		t.Errorf("All: %+v, Len %d; must be %+v", got, x.Len(), l)
	}
	for id := range 256 {
		i := slices.IndexFunc(l, func(v api.Vault) bool { return v.ID == api.ID{byte(id)} })
		want := api.Vault{}
		if i >= 0 {
			want = l[i]
		}
		if v, ok := x.Get(api.ID{byte(id)}); ok != (i >= 0) || !codec.Same(v, want) {
			t.Errorf("Get(%d): %+v, %v", id, v, ok)
		}
	}
}

// P12.1.
func TestPut(t *testing.T) {
	x := table.New()
	has(t, x, nil)
	puts := func(v api.Vault, want api.Errno) {
		t.Helper()
		if e := x.Put(v); e != want {
			t.Errorf("Put(%+v): %d", v, e)
		}
	}
	for i, id := range []byte{9, 200, 3, 100} {
		for _, w := range wrongs() {
			puts(w, api.ErrArg)
		}
		puts(vault(id, 1), api.OK)
		if x.Len() != i+1 {
			t.Errorf("Len: %d", x.Len())
		}
	}
	has(t, x, row(3, 9, 100, 200))
	puts(vault(50, 1), api.ErrFull)
	puts(vault(255, 1), api.ErrFull)
	puts(vault(0, 1), api.ErrFull)
	puts(wrongs()[0], api.ErrArg)
	has(t, x, row(3, 9, 100, 200))
	gone := api.Vault{ID: api.ID{9}, Gen: 4, Gone: true, Wiped: true}
	puts(gone, api.OK)
	puts(vault(200, 7), api.OK)
	l := row(3, 9, 100, 200)
	l[1], l[3] = gone, vault(200, 7)
	has(t, x, l)
	puts(vault(50, 1), api.ErrFull)
}

func TestPlacesByAllBytes(t *testing.T) {
	x := table.New()
	ids := []api.ID{{0, 0, 0, 1}, {0, 0, 1, 0}, {0, 1, 0, 0}, {255, 0, 0, 0}}
	for _, i := range []int{2, 0, 3, 1} {
		v := vault(0, 1)
		v.ID = ids[i]
		if e := x.Put(v); e != api.OK {
			t.Errorf("Put: %d", e)
		}
	}
	for i, v := range x.All() {
		if v.ID != ids[i] {
			t.Errorf("place %d: %v", i, v.ID)
		}
	}
	if _, ok := x.Get(api.ID{0, 0, 0, 2}); ok {
		t.Error("Get of one that is not there")
	}
}

func TestFill(t *testing.T) {
	x := table.New()
	fills := func(l []api.Vault, want api.Errno) {
		t.Helper()
		if e := x.Fill(l); e != want {
			t.Errorf("Fill(%+v): %d", l, e)
		}
	}
	fills(row(1, 2, 3, 4), api.OK)
	has(t, x, row(1, 2, 3, 4))
	fills(row(5, 6), api.OK)
	has(t, x, row(5, 6))
	for _, l := range [][]api.Vault{row(1, 2, 3, 4, 5), row(2, 1), row(1, 1), row(1, 3, 2), row(1, 2, 3, 3)} {
		fills(l, api.ErrArg)
		has(t, x, row(5, 6))
	}
	for _, w := range wrongs() {
		fills([]api.Vault{w}, api.ErrArg)
		w.ID = api.ID{2}
		fills(append(row(1), w), api.ErrArg)
		has(t, x, row(5, 6))
	}
	fills(nil, api.OK)
	has(t, x, nil)
	fills([]api.Vault{}, api.OK)
	has(t, x, nil)
}

func TestMemory(t *testing.T) {
	x := table.New()
	l := row(1, 2, 3)
	room := slices.Grow(slices.Clone(l), 5)
	x.Fill(room)
	v := vault(4, 1)
	x.Put(v)
	again := vault(3, 1)
	x.Put(again)
	v.Secret[0], again.Secret[0], room[0].Secret[0], room[1] = 'x', 'x', 'x', api.Vault{}
	got, _ := x.Get(api.ID{2})
	got.Secret[1] = 'y'
	all := x.All()
	all[2].Secret[2] = 'z'
	all[0] = api.Vault{}
	_ = append(all[1].Secret, 'q')
	l[0].Secret[0] = 1
	has(t, x, row(1, 2, 3, 4))
}

func TestManyWays(t *testing.T) {
	q := rand.New(rand.NewSource(12))
	for range 300 {
		x, m := table.New(), map[api.ID]api.Vault{}
		for range 12 {
			v := vault(byte(q.Intn(7)), uint64(q.Intn(4)))
			e := x.Put(v)
			_, there := m[v.ID]
			want := api.OK
			if v.Gen == 0 {
				want = api.ErrArg
			} else if !there && len(m) == api.MaxVaults {
				want = api.ErrFull
			} else {
				m[v.ID] = v
			}
			if e != want {
				t.Fatalf("Put: %d; must be %d", e, want)
			}
		}
		var l []api.Vault
		for _, v := range m {
			l = append(l, v)
		}
		slices.SortFunc(l, func(a, b api.Vault) int { return bytes.Compare(a.ID[:], b.ID[:]) })
		has(t, x, l)
	}
}
