package shape_test

import (
	"math/rand"
	"slices"
	"testing"

	"claviger/api"
	"claviger/cohort"
	"claviger/shape"
	"claviger/shard"
)

// ids tells the first n IDs of a shard.
func ids(n, of int) (out []api.ID) {
	for i := 0; len(out) < n; i++ {
		if id := (api.ID{byte(i >> 8), byte(i), 7, 7}); shard.Of(id) == of {
			out = append(out, id)
		}
	}
	return out
}

func world(t *testing.T, members int) *cohort.World {
	t.Helper()
	w, e := cohort.New(cohort.Config{Members: members, Clients: 2, Seed: 9})
	if e != api.OK {
		t.Fatal(e)
	}
	return w
}

func escrow(member int, id api.ID, secret []byte) api.Item {
	return api.Item{Kind: api.Send, Member: member, Client: 1, Request: api.Request{Op: api.Escrow, ID: id, Secret: secret, Limit: 3}}
}

// P26.1.
func TestLetters(t *testing.T) {
	w := world(t, 2)
	if len(shape.Letters(w)) != 0 || len(shape.Letters(nil)) != 0 {
		t.Error("Letters of none")
	}
	w.Do(escrow(0, ids(1, 0)[0], []byte("secret")), "1234", "me")
	w.Do(api.Item{Kind: api.Inject, N: 77, To: -5, Member: 6, Bytes: make([]byte, 300)}, "", "")
	w.Do(api.Item{Kind: api.Inject}, "", "")
	want := []shape.Mark{{Kind: api.Ask, From: 1, To: 0, Length: 16 + 64 + 6}, {Kind: 77, From: -5, To: 6, Length: 300}, {}}
	if got := shape.Letters(w); !slices.Equal(got, want) {
		t.Errorf("Letters: %+v; must be %+v", got, want)
	}
	w.Do(api.Item{Kind: api.Deliver}, "", "")
	want = []shape.Mark{want[1], want[2], {Kind: api.Answer, From: 0, To: 1, Length: 16 + 24}}
	if got := shape.Letters(w); !slices.Equal(got, want) {
		t.Errorf("Letters: %+v; must be %+v", got, want)
	}
}

func TestOuts(t *testing.T) {
	if len(shape.Outs()) != 0 {
		t.Error("Outs of none")
	}
	got := shape.Outs(cohort.Out{Kind: 1, Why: api.ErrPin, N: 7}, cohort.Out{}, cohort.Out{Kind: 2, N: 3, Reply: api.Reply{Why: api.ErrGone, Left: 9, Secret: []byte("abc")}})
	want := []shape.Mark{{Kind: 1, From: 23, To: 7}, {}, {Kind: 2, To: 3, Length: 3}}
	if !slices.Equal(got, want) {
		t.Errorf("Outs: %+v", got)
	}
}

func TestDisks(t *testing.T) {
	if len(shape.Disks(nil)) != 0 {
		t.Error("Disks of nil")
	}
	for members := 1; members <= 8; members++ {
		if got := shape.Disks(world(t, members)); !slices.Equal(got, slices.Repeat([]int{-1}, 10*members)) {
			t.Errorf("Disks of a new world of %d: %v", members, got)
		}
	}
	w := world(t, 2)
	w.Do(escrow(1, ids(1, 1)[0], []byte("abc")), "1234", "me")
	w.Do(api.Item{Kind: api.Settle}, "", "")
	w.Do(api.Item{Kind: api.Fuse, N: 1, Torn: 20}, "", "")
	w.Do(escrow(0, ids(1, 0)[0], []byte("abc")), "1234", "me")
	w.Do(api.Item{Kind: api.Settle}, "", "")
	want := slices.Repeat([]int{-1}, 20)
	want[2], want[12] = 20, 1+48+3+8
	if got := shape.Disks(w); !slices.Equal(got, want) {
		t.Errorf("Disks: %v; must be %v", got, want)
	}
	w.Do(api.Item{Kind: api.Stop, Member: 1}, "", "")
	w.Member(1).Swap(nil)
	if got := shape.Disks(w); !slices.Equal(got[10:], slices.Repeat([]int{-1}, 10)) {
		t.Errorf("Disks: %v", got)
	}
	empty := w.Member(1).Disk()
	empty.Put(3, nil)
	w.Member(1).Swap(empty)
	if got := shape.Disks(w); got[13] != 0 {
		t.Errorf("a slot of no bytes: %v", got)
	}
}

func TestSame(t *testing.T) {
	a := []shape.Mark{{1, 2, 3, 4}, {5, 6, 7, 8}}
	if !shape.Same(nil, nil) || !shape.Same(nil, []shape.Mark{}) || !shape.Same(a, slices.Clone(a)) || shape.Same(a, a[:1]) || shape.Same(a[:1], a) || shape.Same(nil, a) {
		t.Error("Same")
	}
	for i := range 8 {
		b := slices.Clone(a)
		*[]*int{&b[0].Kind, &b[0].From, &b[0].To, &b[0].Length, &b[1].Kind, &b[1].From, &b[1].To, &b[1].Length}[i]++
		if shape.Same(a, b) || shape.Same(b, a) {
			t.Errorf("Same with change %d", i)
		}
	}
	b := []shape.Mark{a[1], a[0]}
	if shape.Same(a, b) {
		t.Error("Same of another order")
	}
}

// P26.2, W5: two scripts that differ in bytes of secrets alone.
func TestSecretsAreNotSeen(t *testing.T) {
	q := rand.New(rand.NewSource(26))
	id := slices.Concat(ids(5, 0), ids(2, 1))
	for range 60 {
		v, w := world(t, 2), world(t, 2)
		for range 80 {
			x := api.Item{Kind: 1 + q.Intn(14), Member: q.Intn(2), Client: q.Intn(2), To: q.Intn(2), N: q.Intn(4), Torn: q.Intn(50)}
			if q.Intn(2) == 0 {
				x.Kind = []int{api.Send, api.Deliver}[q.Intn(2)]
			}
			if x.Kind == api.Inject {
				x.N += 5
			}
			a, b := make([]byte, q.Intn(9)), []byte(nil)
			b = slices.Clone(a)
			q.Read(a)
			q.Read(b)
			x.Request = api.Request{Op: 1 + q.Intn(4), ID: id[q.Intn(len(id))], Limit: 2, Secret: a}
			y := x
			y.Request.Secret = b
			pin := []string{"1234", "4321", "12"}[q.Intn(3)]
			if !shape.Same(shape.Outs(v.Do(x, pin, "me")), shape.Outs(w.Do(y, pin, "me"))) || !shape.Same(shape.Letters(v), shape.Letters(w)) || !slices.Equal(shape.Disks(v), shape.Disks(w)) {
				t.Fatalf("a secret is seen behind %+v", x)
			}
			for i := range 2 {
				if v.Member(i).Steps() != w.Member(i).Steps() || v.Member(i).Is() != w.Member(i).Is() {
					t.Fatalf("a secret is seen by member %d behind %+v", i, x)
				}
			}
		}
	}
}
