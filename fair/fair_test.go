package fair_test

import (
	"math/rand"
	"slices"
	"testing"

	"claviger/api"
	"claviger/cohort"
	"claviger/fair"
	"claviger/shard"
)

// ids tells the first n IDs of a shard.
func ids(n, of int) (out []api.ID) {
	for i := 0; len(out) < n; i++ {
		if id := (api.ID{byte(i >> 8), byte(i), 7, 7}); shard.Of(id) == of {
			out = append(out, id)
		}
	}
	return out
}

func world(t *testing.T, members int) *cohort.World {
	t.Helper()
	w, e := cohort.New(cohort.Config{Members: members, Clients: 2, Seed: 9})
	if e != api.OK {
		t.Fatal(e)
	}
	return w
}

func does(t *testing.T, w *cohort.World, l ...api.Item) {
	t.Helper()
	for _, x := range l {
		if o := w.Do(x, "1234", "me"); o.Why != api.OK {
			t.Fatalf("Do(%+v): %d", x, o.Why)
		}
	}
}

// words tells steps as kinds and members; what else they say must be nothing, but of a Fuse.
func words(t *testing.T, l []cohort.Step) (out [][2]int) {
	t.Helper()
	for _, s := range l {
		x := s.Item
		n := 0
		if x.Kind == api.Fuse {
			n = -1
		}
		q := x.Request
		if x.N != n || x.Client != 0 || x.Shard != 0 || x.To != 0 || x.Torn != 0 || len(x.Bytes) != 0 || s.Pin != "" || s.Owner != "" ||
			q.Op != 0 || q.Limit != 0 || len(q.Secret) != 0 || q.ID != (api.ID{}) || x.Kind == api.Settle && x.Member != 0 {
			t.Errorf("a step that says too much: %+v", s)
		}
		out = append(out, [2]int{x.Kind, x.Member})
	}
	return out
}

// P27.1.
func TestSuffix(t *testing.T) {
	if len(fair.Suffix(nil)) != 0 || fair.Whole(nil) || fair.Pending(nil) != 0 {
		t.Error("of nil")
	}
	const fuse, settle, start, again = api.Fuse, api.Settle, api.Start, api.Again
	is := func(w *cohort.World, want [][2]int) {
		t.Helper()
		if got := words(t, fair.Suffix(w)); !slices.Equal(got, want) {
			t.Errorf("Suffix: %v; must be %v", got, want)
		}
	}
	one := [][2]int{{again, 0}, {settle, 0}}
	is(world(t, 1), slices.Concat([][2]int{{fuse, 0}, {settle, 0}}, one, one))
	w := world(t, 4)
	all := [][2]int{{again, 0}, {settle, 0}, {again, 1}, {settle, 0}, {again, 2}, {settle, 0}, {again, 3}, {settle, 0}}
	fuses := [][2]int{{fuse, 0}, {fuse, 1}, {fuse, 2}, {fuse, 3}, {settle, 0}}
	is(w, slices.Concat(fuses, all, all))
	does(t, w, api.Item{Kind: api.Stop, Member: 3}, api.Item{Kind: api.Stop, Member: 1})
	is(w, slices.Concat(fuses, [][2]int{{start, 1}, {start, 3}}, all, all))
	// one that refuses: it kept something, and its disk has nothing of it
	does(t, w, api.Item{Kind: api.Copy, Member: 2}, api.Item{Kind: api.Move, Member: 2, Shard: 2, To: 0}, api.Item{Kind: api.Stop, Member: 2}, api.Item{Kind: api.Swap, Member: 2})
	if o := w.Do(api.Item{Kind: api.Start, Member: 2}, "", ""); o.Why != api.ErrRefused {
		t.Fatal(o)
	}
	some := [][2]int{{again, 0}, {settle, 0}, {again, 1}, {settle, 0}, {again, 3}, {settle, 0}}
	was := len(w.Office())
	is(w, slices.Concat(fuses, [][2]int{{start, 1}, {start, 3}}, some, some))
	if len(w.Office()) != was || w.Member(1).Is() != api.Down {
		t.Error("Suffix did what it tells")
	}
}

func TestWholeAndPending(t *testing.T) {
	w := world(t, 2)
	is := func(whole bool, pending int) {
		t.Helper()
		if fair.Whole(w) != whole || fair.Pending(w) != pending {
			t.Errorf("Whole %v, Pending %d; must be %v, %d", fair.Whole(w), fair.Pending(w), whole, pending)
		}
	}
	is(true, 0)
	does(t, w, api.Item{Kind: api.Inject})
	is(false, 0)
	does(t, w, api.Item{Kind: api.Lose})
	is(true, 0)
	does(t, w, api.Item{Kind: api.Stop})
	is(false, 0)
	does(t, w, api.Item{Kind: api.Start})
	is(true, 0)
	does(t, w, api.Item{Kind: api.Move, Member: 0, Shard: 2, To: 1}, api.Item{Kind: api.Move, Member: 0, Shard: 4, To: 1}, api.Item{Kind: api.Move, Member: 1, Shard: 3, To: 0})
	is(false, 3)
	does(t, w, api.Item{Kind: api.Stop})
	is(false, 1)
	does(t, w, api.Item{Kind: api.Start})
	for range 3 {
		does(t, w, api.Item{Kind: api.Lose})
	}
	is(false, 3)
	does(t, w, api.Item{Kind: api.Again})
	is(false, 3)
	does(t, w, api.Item{Kind: api.Deliver}, api.Item{Kind: api.Deliver})
	is(false, 3) // there, but not thanked for
	does(t, w, api.Item{Kind: api.Settle})
	is(false, 1)
	does(t, w, api.Item{Kind: api.Again, Member: 1}, api.Item{Kind: api.Settle})
	is(true, 0)
	// a shard that one has and another one has lent still, with no letter under way
	does(t, w, api.Item{Kind: api.Move, Member: 1, Shard: 1, To: 0}, api.Item{Kind: api.Deliver}, api.Item{Kind: api.Lose})
	if w.Owners()[1] != 0 {
		t.Fatal("Owners")
	}
	is(false, 1)
	// a shard that nobody has, though none is lent
	w = world(t, 2)
	if e := w.Member(0).Do(api.Record{Kind: api.Out, Shard: 2, To: 1, Epoch: 2}); e != api.OK {
		t.Fatal(e)
	}
	if e := w.Member(0).Do(api.Record{Kind: api.Done, Shard: 2, Epoch: 2}); e != api.OK {
		t.Fatal(e)
	}
	is(false, 0)
	// a shard that two have
	w = world(t, 2)
	if e := w.Member(1).Do(api.Record{Kind: api.In, Shard: 2, Epoch: 2}); e != api.OK {
		t.Fatal(e)
	}
	is(false, 0)
}

// P27.2, W4: behind any script without Swap, Spoil and Inject Suffix makes the world Whole.
func TestItComesToItsEnd(t *testing.T) {
	q := rand.New(rand.NewSource(27))
	id := slices.Concat(ids(3, 0), ids(2, 1), ids(2, 2))
	kinds := []int{api.Send, api.Send, api.Deliver, api.Deliver, api.Deliver, api.Lose, api.Double, api.Fuse, api.Start, api.Start, api.Stop, api.Copy, api.Move, api.Move, api.Move, api.Again, api.Settle}
	broken, lent := 0, 0
	for range 250 {
		members := 1 + q.Intn(8)
		w := world(t, members)
		for range q.Intn(200) {
			x := api.Item{Kind: kinds[q.Intn(len(kinds))], Member: q.Intn(members), Client: q.Intn(2), To: q.Intn(members), N: q.Intn(4), Shard: q.Intn(17), Torn: q.Intn(90)}
			if x.Kind == api.Move && x.Shard < 16 && w.Owners()[x.Shard] >= 0 {
				x.Member = w.Owners()[x.Shard]
			}
			if x.Kind == api.Fuse {
				x.N = q.Intn(12)
			}
			x.Request = api.Request{Op: 1 + q.Intn(4), ID: id[q.Intn(len(id))], Limit: 1 + q.Intn(3), Secret: []byte("secret")}
			w.Do(x, []string{"1234", "4321"}[q.Intn(2)], "me")
		}
		if !fair.Whole(w) {
			broken++
		}
		lent += fair.Pending(w)
		w.Run(fair.Suffix(w)...)
		if !fair.Whole(w) || fair.Pending(w) != 0 {
			t.Fatalf("it did not come to its end: owners %v", w.Owners())
		}
	}
	if broken < 100 || lent < 50 {
		t.Errorf("%d were broken, %d shards lent", broken, lent)
	}
}
