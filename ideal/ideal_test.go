package ideal_test

import (
	"bytes"
	"math/rand"
	"slices"
	"testing"

	"claviger/api"
	"claviger/codec"
	"claviger/desk"
	"claviger/ideal"
	"claviger/shard"
	"claviger/state"
	"claviger/vault"
)

var right, wrong, mine = api.Digest{1}, api.Digest{2}, api.Digest{3}

// ids tells the first n IDs of a shard, rising.
func ids(n, of int) (out []api.ID) {
	for i := 0; len(out) < n; i++ {
		if id := (api.ID{byte(i >> 8), byte(i), 7, 7}); shard.Of(id) == of {
			out = append(out, id)
		}
	}
	return out
}

func escrow(id api.ID) api.Request {
	return api.Request{Op: api.Escrow, ID: id, Pin: right, Secret: []byte("secret"), Limit: 3, Owner: mine, Client: 2, Num: 9}
}

func recover1(id api.ID, pin api.Digest) api.Request {
	return api.Request{Op: api.Recover, ID: id, Pin: pin, Client: 1, Num: 10}
}

func same(a, b api.Reply) bool {
	return a.Why == b.Why && a.ID == b.ID && a.Gen == b.Gen && a.Left == b.Left && a.Client == b.Client && a.Num == b.Num && bytes.Equal(a.Secret, b.Secret)
}

// does asks that a request is answered, and its vault is then, as vault.Do says.
func does(t *testing.T, m *ideal.Map, q api.Request, why api.Errno) {
	t.Helper()
	v, there := m.Get(q.ID)
	next, want, changed := vault.Do(v, q)
	r := m.Do(q)
	if r.Why != why || !same(r, want) {
		t.Fatalf("Do(%+v): %+v; must be %+v", q, r, want)
	}
	now, is := m.Get(q.ID)
	if is != (there || changed) || !codec.Same(now, next) {
		t.Fatalf("behind %+v: %+v; must be %+v", q, now, next)
	}
}

// P23.1.
func TestDo(t *testing.T) {
	m := ideal.New()
	id := ids(6, 4)
	if len(m.All()) != 0 {
		t.Error("All of a new one")
	}
	does(t, m, recover1(id[0], right), api.ErrNone)
	does(t, m, escrow(id[0]), api.OK)
	does(t, m, escrow(id[0]), api.ErrThere)
	does(t, m, recover1(id[0], right), api.OK)
	does(t, m, recover1(id[0], wrong), api.ErrPin)
	does(t, m, recover1(id[0], wrong), api.ErrPin)
	does(t, m, recover1(id[0], wrong), api.ErrPin)
	does(t, m, recover1(id[0], right), api.ErrGone)
	does(t, m, escrow(id[0]), api.OK)
	replace := escrow(id[0])
	replace.Op, replace.Owner = api.Replace, wrong
	does(t, m, replace, api.ErrOwner)
	replace.Owner = mine
	does(t, m, replace, api.OK)
	does(t, m, api.Request{Op: api.Remove, ID: id[0], Owner: mine}, api.OK)
	for _, x := range []int{3, 1, 2} {
		does(t, m, escrow(id[x]), api.OK)
	}
	full := m.All()
	if r := m.Do(escrow(id[4])); !same(r, api.Reply{Why: api.ErrFull, ID: id[4], Client: 2, Num: 9}) || !slices.EqualFunc(full, m.All(), codec.Same) {
		t.Errorf("a fifth vault of a shard: %+v", r)
	}
	does(t, m, recover1(id[5], right), api.ErrNone)
	does(t, m, escrow(id[0]), api.OK) // one that is gone has its place still
	does(t, m, escrow(ids(1, 5)[0]), api.OK)
	for _, q := range []api.Request{{}, {Op: 5}, {Op: api.Escrow, ID: id[0], Client: 3, Num: 4}, {Op: api.Recover, ID: id[0], Client: 4, Num: 4}} {
		before := m.All()
		if r := m.Do(q); !same(r, api.Reply{Why: api.ErrForm}) || !slices.EqualFunc(before, m.All(), codec.Same) {
			t.Errorf("Do(%+v): %+v", q, r)
		}
	}
	if v, ok := m.Get(id[5]); ok || !codec.Same(v, api.Vault{}) {
		t.Errorf("Get of none: %+v, %v", v, ok)
	}
}

func TestAll(t *testing.T) {
	m := ideal.New()
	var want []api.ID
	for _, of := range []int{15, 0, 7} {
		for _, x := range []int{2, 0, 3, 1} {
			m.Do(escrow(ids(4, of)[x]))
		}
	}
	for _, of := range []int{0, 7, 15} {
		want = append(want, ids(4, of)...)
	}
	var got []api.ID
	for _, v := range m.All() {
		got = append(got, v.ID)
	}
	if !slices.Equal(got, want) {
		t.Errorf("All: %v; must be %v", got, want)
	}
}

func TestCopyAndMemory(t *testing.T) {
	m := ideal.New()
	id := ids(3, 4)
	q := escrow(id[0])
	m.Do(q)
	q.Secret[0] = 'x'
	r := m.Do(recover1(id[0], right))
	r.Secret[1] = 'y'
	m.All()[0].Secret[2] = 'z'
	v, _ := m.Get(id[0])
	v.Secret[3] = 'w'
	c := m.Copy()
	if r := m.Do(recover1(id[0], right)); string(r.Secret) != "secret" {
		t.Errorf("memory is shared: %q", r.Secret)
	}
	c.Do(recover1(id[0], wrong))
	c.Do(escrow(id[1]))
	m.Do(escrow(id[2]))
	if v, _ := m.Get(id[0]); v.Used != 0 || len(m.All()) != 2 || len(c.All()) != 2 {
		t.Error("Copy is not by itself")
	}
	if _, ok := c.Get(id[2]); ok {
		t.Error("Copy is not by itself")
	}
}

// A map answers as a cohort of one member that does not fail.
func TestLikeDesk(t *testing.T) {
	rnd := rand.New(rand.NewSource(23))
	for range 40 {
		m, s := ideal.New(), state.New(0, 1)
		id := append(ids(6, 3), ids(2, 9)...)
		for range 200 {
			q := escrow(id[rnd.Intn(len(id))])
			q.Limit = 1 + rnd.Intn(3)
			switch q.Op = 1 + rnd.Intn(4); q.Op {
			case api.Recover:
				q = recover1(q.ID, []api.Digest{right, wrong}[rnd.Intn(2)])
			case api.Remove:
				q = api.Request{Op: api.Remove, ID: q.ID, Owner: mine}
			}
			v, want, changes := desk.Plain(s, q)
			if changes && s.Apply(api.Record{Kind: api.Keep, Vault: v}) != api.OK {
				t.Fatal("Apply")
			}
			if r := m.Do(q); !same(r, want) {
				t.Fatalf("Do(%+v): %+v; must be %+v", q, r, want)
			}
		}
		var all []api.Vault
		for n := range api.Shards {
			all = append(all, s.Vaults(n)...)
		}
		if !slices.EqualFunc(m.All(), all, codec.Same) {
			t.Fatal("All")
		}
	}
}
