package cohort_test

import (
	"fmt"
	"math/rand"
	"slices"
	"testing"

	"claviger/api"
	"claviger/codec"
	"claviger/cohort"
	"claviger/ideal"
	"claviger/shard"
	"claviger/state"
)

// item makes one item of a script; lies: with Swap and Spoil.
func item(q *rand.Rand, w *cohort.World, members, clients int, id []api.ID, lies bool) cohort.Step {
	x := api.Item{Member: q.Intn(members)}
	s := cohort.Step{}
	switch k := q.Intn(40); {
	case k < 14:
		x.Kind, x.Client = api.Send, q.Intn(clients)
		x.Request = api.Request{Op: 1 + q.Intn(4), ID: id[q.Intn(len(id))], Limit: 1 + q.Intn(4), Secret: []byte{byte(q.Intn(256)), 1, 2}}
		if owner := w.Owners()[shard.Of(x.Request.ID)]; owner >= 0 && q.Intn(8) > 0 {
			x.Member = owner
		}
		if x.Request.Op != api.Escrow && q.Intn(3) > 0 {
			x.Request.Op = api.Recover
		}
		s.Pin = []string{"1234", "4321"}[q.Intn(2)]
		s.Owner = []string{"me", "you"}[q.Intn(5)/4]
	case k < 24:
		x.Kind, x.N = api.Deliver, q.Intn(3)
	case k < 26:
		x.Kind, x.N = api.Lose, q.Intn(4)
	case k < 28:
		x.Kind, x.N = api.Double, q.Intn(4)
	case k < 29:
		x.Kind, x.N, x.Torn = api.Fuse, q.Intn(9)-1, q.Intn(90)-1
	case k < 33:
		x.Kind = api.Start
		for i := range members {
			if w.Member(i).Is() == api.Down {
				x.Member = i
			}
		}
	case k < 34:
		x.Kind = api.Stop
	case k < 36:
		x.Kind, x.Shard, x.To = api.Move, shard.Of(id[q.Intn(len(id))]), q.Intn(members)
	case k < 37:
		x.Kind = api.Again
	case k < 38:
		x.Kind = api.Copy
	case k < 39 && lies:
		x.Kind, x.N, x.Torn = []int{api.Swap, api.Spoil}[q.Intn(2)], q.Intn(10), q.Intn(60)
		for i := range members {
			if w.Member(i).Is() == api.Down {
				x.Member = i
			}
		}
	default:
		x.Kind = api.Settle
	}
	s.Item = x
	return s
}

// ruled asks of a world what the rules of the whole say, and tells how many members refuse.
func ruled(t *testing.T, w *cohort.World, members int) int {
	t.Helper()
	m := ideal.New()
	limits, wrongs := map[string]int{}, map[string]int{}
	name := func(r api.Reply) string { return fmt.Sprint(r.ID, r.Gen) }
	deeds := map[[2]uint64][]api.Reply{}
	for i, d := range w.Deeds() { // W1
		if r := m.Do(d.Request); !sameReply(r, d.Reply) {
			t.Fatalf("deed %d: %+v; must be %+v", i, d.Reply, r)
		}
		at := [2]uint64{uint64(d.Request.Client), d.Request.Num}
		deeds[at] = append(deeds[at], d.Reply)
		if d.Request.Op == api.Escrow || d.Request.Op == api.Replace {
			limits[name(d.Reply)] = d.Request.Limit
		}
		if d.Reply.Why == api.ErrPin { // W2
			if wrongs[name(d.Reply)]++; wrongs[name(d.Reply)] > limits[name(d.Reply)] {
				t.Fatalf("deed %d: a guess too many", i)
			}
		}
	}
	for _, r := range w.Replies() {
		changed := r.Why == api.ErrPin || r.Why == api.OK && len(r.Secret) == 0
		at := [2]uint64{uint64(r.Client), r.Num}
		if changed && !slices.ContainsFunc(deeds[at], func(d api.Reply) bool { return sameReply(d, r) }) {
			t.Fatalf("a reply ahead of its deed: %+v", r)
		}
		if len(r.Secret) > 0 && r.Why != api.OK {
			t.Fatalf("a secret that may not be told: %+v", r)
		}
	}
	owned := map[int]int{}
	refusing := 0
	for i := range members {
		if w.Member(i).Is() == api.Refusing {
			refusing++
		}
		s := w.Member(i).View()
		for n := range api.Shards {
			if s == nil {
				continue
			}
			role, _, _ := s.Role(n)
			if role == state.Own {
				owned[n]++
			}
			if role == state.Away {
				continue
			}
			var want []api.Vault
			for _, v := range m.All() {
				if shard.Of(v.ID) == n {
					want = append(want, v)
				}
			}
			if role == state.Own && !slices.EqualFunc(s.Vaults(n), want, codec.Same) {
				t.Fatalf("shard %d of member %d: %+v; must be %+v", n, i, s.Vaults(n), want)
			}
		}
	}
	for n, count := range owned {
		if count > 1 {
			t.Fatalf("shard %d has %d owners", n, count)
		}
	}
	return refusing
}

// P24.3, W1 to W3.
func TestAnyScript(t *testing.T) {
	id := slices.Concat(ids(2, 0), ids(6, 1), ids(1, 2), ids(2, 3))
	q := rand.New(rand.NewSource(24))
	refusing, deeds := 0, 0
	for round := range 150 {
		members, clients, lies := 1+q.Intn(4), 1+q.Intn(3), round%3 == 0
		w := world(t, members, clients)
		for range 150 {
			s := item(q, w, members, clients, id, lies)
			w.Do(s.Item, s.Pin, s.Owner)
		}
		n := ruled(t, w, members)
		if n > 0 && !lies {
			t.Fatal("an honest disk was refused")
		}
		refusing += n
		deeds += len(w.Deeds())
	}
	if refusing < 5 || deeds < 1000 {
		t.Errorf("%d refused, %d deeds", refusing, deeds)
	}
}
