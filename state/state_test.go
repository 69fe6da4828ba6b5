package state_test

import (
	"bytes"
	"math"
	"math/rand"
	"slices"
	"testing"

	"claviger/api"
	"claviger/codec"
	"claviger/shard"
	"claviger/state"
)

// ids tells the first n IDs of a shard, rising.
func ids(n, of int) (out []api.ID) {
	for i := 0; len(out) < n; i++ {
		if id := (api.ID{byte(i >> 8), byte(i), 7, 7}); shard.Of(id) == of {
			out = append(out, id)
		}
	}
	return out
}

func vault(id api.ID, gen uint64) api.Vault {
	return api.Vault{ID: id, Gen: gen, Pin: api.Digest{1}, Secret: []byte{id[1], 'a'}, Limit: 5, Owner: api.Digest{2}}
}

func row(n, of int) (out []api.Vault) {
	for _, id := range ids(n, of) {
		out = append(out, vault(id, 1))
	}
	return out
}

func is(t *testing.T, s *state.State, n, role int, epoch uint64, to int, l []api.Vault) {
	t.Helper()
	r, e, w := s.Role(n)
	if r != role || e != epoch || w != to || !slices.EqualFunc(s.Vaults(n), l, codec.Same) {
		t.Errorf("shard %d: %d, %d, %d, %+v; must be %d, %d, %d, %+v", n, r, e, w, s.Vaults(n), role, epoch, to, l)
	}
}

// refused asks that a record is refused by Check and by Apply, and changes nothing.
func refused(t *testing.T, s *state.State, r api.Record, want api.Errno) {
	t.Helper()
	was := s.Copy()
	if e := s.Check(r); e != want {
		t.Errorf("Check(%+v): %d; must be %d", r, e, want)
	}
	if e := s.Apply(r); e != want || !state.Same(was, s) {
		t.Errorf("Apply(%+v): %d; must be %d", r, e, want)
	}
}

func applied(t *testing.T, s *state.State, r api.Record) {
	t.Helper()
	was := s.Copy()
	if e := s.Check(r); e != api.OK || !state.Same(was, s) {
		t.Errorf("Check(%+v): %d", r, e)
	}
	if e := s.Apply(r); e != api.OK {
		t.Errorf("Apply(%+v): %d", r, e)
	}
}

// P16.1.
func TestNew(t *testing.T) {
	for _, c := range [][2]int{{0, 0}, {-1, 1}, {1, 1}, {8, 8}, {0, 9}, {0, -1}, {2, 2}, {math.MinInt, 3}, {math.MaxInt, 3}, {0, math.MaxInt}, {0, math.MinInt}} {
		if state.New(c[0], c[1]) != nil {
			t.Errorf("New(%d, %d)", c[0], c[1])
		}
	}
	for members := 1; members <= 8; members++ {
		for member := range members {
			s := state.New(member, members)
			if s == nil {
				t.Fatalf("New(%d, %d): nil", member, members)
			}
			if a, b := s.Who(); a != member || b != members {
				t.Errorf("Who: %d, %d", a, b)
			}
			for n := range api.Shards {
				role := state.Away
				if n%members == member {
					role = state.Own
				}
				is(t, s, n, role, 1, 0, nil)
			}
			for _, n := range []int{-1, 16, math.MaxInt, math.MinInt} {
				is(t, s, n, 0, 0, 0, nil)
			}
			if len(s.Lent()) != 0 {
				t.Errorf("Lent: %v", s.Lent())
			}
		}
	}
	if state.Away != 0 || state.Own != 1 || state.Lent != 2 {
		t.Error("roles")
	}
}

// P16.2.
func TestKeep(t *testing.T) {
	s := state.New(0, 2)
	l := row(6, 4)
	for _, i := range []int{3, 0, 2} {
		applied(t, s, api.Record{Kind: api.Keep, Vault: l[i]})
	}
	is(t, s, 4, state.Own, 1, 0, []api.Vault{l[0], l[2], l[3]})
	if _, ok := s.Get(l[1].ID); ok {
		t.Error("Get of one that is not there")
	}
	applied(t, s, api.Record{Kind: api.Keep, Vault: l[1]})
	refused(t, s, api.Record{Kind: api.Keep, Vault: l[4]}, api.ErrFull)
	gone := api.Vault{ID: l[2].ID, Gen: 3, Gone: true}
	applied(t, s, api.Record{Kind: api.Keep, Vault: gone})
	is(t, s, 4, state.Own, 1, 0, []api.Vault{l[0], l[1], gone, l[3]})
	if v, ok := s.Get(gone.ID); !ok || !codec.Same(v, gone) {
		t.Errorf("Get: %+v, %v", v, ok)
	}
	refused(t, s, api.Record{Kind: api.Keep, Vault: row(1, 5)[0]}, api.ErrShard)
	refused(t, s, api.Record{Kind: api.Keep}, api.ErrArg)
	refused(t, s, api.Record{Kind: api.Keep, Vault: l[0], Shard: 4}, api.ErrArg)
	refused(t, s, api.Record{}, api.ErrArg)
	refused(t, s, api.Record{Kind: 9}, api.ErrArg)
	applied(t, s, api.Record{Kind: api.Out, Shard: 4, To: 1, Epoch: 2})
	refused(t, s, api.Record{Kind: api.Keep, Vault: l[0]}, api.ErrBusy)
	refused(t, s, api.Record{Kind: api.Keep, Vault: l[4]}, api.ErrBusy)
	if v, ok := s.Get(l[0].ID); !ok || !codec.Same(v, l[0]) {
		t.Errorf("Get of a Lent one: %+v, %v", v, ok)
	}
	applied(t, s, api.Record{Kind: api.Done, Shard: 4, Epoch: 2})
	refused(t, s, api.Record{Kind: api.Keep, Vault: l[0]}, api.ErrShard)
	if v, ok := s.Get(l[0].ID); ok || !codec.Same(v, api.Vault{}) {
		t.Errorf("Get of an Away one: %+v, %v", v, ok)
	}
}

func TestOutInDone(t *testing.T) {
	out := func(shard, to int, epoch uint64) api.Record {
		return api.Record{Kind: api.Out, Shard: shard, To: to, Epoch: epoch}
	}
	in := func(shard int, epoch uint64, l []api.Vault) api.Record {
		return api.Record{Kind: api.In, Shard: shard, Epoch: epoch, Vaults: l}
	}
	done := func(shard int, epoch uint64) api.Record {
		return api.Record{Kind: api.Done, Shard: shard, Epoch: epoch}
	}
	s := state.New(1, 3)
	l := row(4, 4)
	for _, v := range l {
		applied(t, s, api.Record{Kind: api.Keep, Vault: v})
	}
	// Out: To first, then the role, then the Epoch.
	for _, to := range []int{1, 3, 7} {
		refused(t, s, out(4, to, 2), api.ErrArg)
		refused(t, s, out(5, to, 2), api.ErrArg)
	}
	refused(t, s, out(4, 8, 2), api.ErrArg)
	refused(t, s, out(5, 0, 2), api.ErrShard)
	refused(t, s, out(5, 0, 9), api.ErrShard)
	refused(t, s, out(4, 0, 1), api.ErrArg)
	refused(t, s, out(4, 0, 3), api.ErrArg)
	refused(t, s, done(4, 1), api.ErrShard)
	refused(t, s, in(4, 2, nil), api.ErrShard)
	applied(t, s, out(4, 2, 2))
	is(t, s, 4, state.Lent, 2, 2, l)
	refused(t, s, out(4, 0, 3), api.ErrBusy)
	refused(t, s, out(4, 1, 3), api.ErrArg)
	refused(t, s, out(4, 0, 9), api.ErrBusy)
	applied(t, s, out(13, 0, 2))
	applied(t, s, out(1, 0, 2))
	if !slices.Equal(s.Lent(), []int{1, 4, 13}) {
		t.Errorf("Lent: %v", s.Lent())
	}
	// In: the vaults' shard first, then the role, then the Epoch.
	refused(t, s, in(4, 2, nil), api.ErrOver)
	refused(t, s, in(4, 1, nil), api.ErrOver)
	refused(t, s, in(4, 3, row(1, 5)), api.ErrArg)
	refused(t, s, in(7, 3, row(1, 5)), api.ErrArg)
	refused(t, s, in(7, 3, nil), api.ErrShard)
	refused(t, s, in(5, 1, nil), api.ErrOver)
	refused(t, s, in(5, 3, append(row(1, 5), row(2, 4)...)), api.ErrArg)
	applied(t, s, in(4, 5, l[1:3])) // a parcel that comes back while it is Lent
	is(t, s, 4, state.Own, 5, 0, l[1:3])
	applied(t, s, in(5, 2, row(4, 5)))
	is(t, s, 5, state.Own, 2, 0, row(4, 5))
	refused(t, s, in(5, 9, nil), api.ErrShard)
	// Done.
	refused(t, s, done(4, 5), api.ErrShard)
	refused(t, s, done(13, 1), api.ErrShard)
	refused(t, s, done(13, 3), api.ErrShard)
	refused(t, s, done(6, 1), api.ErrShard)
	applied(t, s, done(13, 2))
	is(t, s, 13, state.Away, 2, 0, nil)
	refused(t, s, done(13, 2), api.ErrShard)
	applied(t, s, in(13, 3, nil))
	is(t, s, 13, state.Own, 3, 0, nil)
	applied(t, s, out(5, 2, 3))
	applied(t, s, done(5, 3))
	is(t, s, 5, state.Away, 3, 0, nil)
	if !slices.Equal(s.Lent(), []int{1}) {
		t.Errorf("Lent: %v", s.Lent())
	}
	lone := state.New(0, 1)
	refused(t, lone, out(3, 0, 2), api.ErrArg)
	refused(t, lone, out(3, 1, 2), api.ErrArg)
	if e := lone.Set(3, state.Own, api.MaxCount, 0, nil); e != api.OK {
		t.Errorf("Set: %d", e)
	}
}

// P16.3.
func TestSet(t *testing.T) {
	s := state.New(1, 3)
	sets := func(n, role int, epoch uint64, to int, l []api.Vault, want api.Errno) {
		t.Helper()
		was := s.Copy()
		if e := s.Set(n, role, epoch, to, l); e != want {
			t.Errorf("Set(%d, %d, %d, %d, %d vaults): %d; must be %d", n, role, epoch, to, len(l), e, want)
		}
		if want == api.OK {
			is(t, s, n, role, epoch, to, l)
		} else if !state.Same(was, s) {
			t.Errorf("Set(%d, %d, %d, %d, %d vaults) changed it", n, role, epoch, to, len(l))
		}
	}
	l := row(5, 3)
	sets(3, state.Own, 7, 0, l[:4], api.OK)
	sets(3, state.Lent, 8, 0, l[:3], api.OK)
	sets(3, state.Lent, 8, 2, nil, api.OK)
	sets(3, state.Away, api.MaxCount, 0, nil, api.OK)
	sets(3, state.Own, 1, 0, l[2:3], api.OK)
	for _, n := range []int{-1, 16, math.MaxInt, math.MinInt} {
		sets(n, state.Own, 1, 0, nil, api.ErrArg)
		sets(3, n, 1, 0, nil, api.ErrArg)
		sets(3, state.Lent, 1, n, nil, api.ErrArg)
		sets(3, state.Own, 1, n, nil, api.ErrArg)
	}
	sets(3, 3, 1, 0, nil, api.ErrArg)
	sets(3, state.Own, 0, 0, nil, api.ErrArg)
	sets(3, state.Own, api.MaxCount+1, 0, nil, api.ErrArg)
	sets(3, state.Own, math.MaxUint64, 0, nil, api.ErrArg)
	sets(3, state.Own, 1, 2, nil, api.ErrArg)
	sets(3, state.Away, 1, 2, nil, api.ErrArg)
	sets(3, state.Away, 1, 0, l[:1], api.ErrArg)
	sets(3, state.Lent, 1, 1, nil, api.ErrArg)
	sets(3, state.Lent, 1, 3, nil, api.ErrArg)
	sets(3, state.Own, 1, 0, l, api.ErrArg)
	sets(3, state.Own, 1, 0, []api.Vault{l[1], l[0]}, api.ErrArg)
	sets(3, state.Own, 1, 0, []api.Vault{l[0], l[0]}, api.ErrArg)
	sets(3, state.Own, 1, 0, row(1, 4), api.ErrArg)
	sets(3, state.Own, 1, 0, []api.Vault{{ID: l[0].ID}}, api.ErrArg)
	is(t, s, 3, state.Own, 1, 0, l[2:3])
}

func TestCopyAndSame(t *testing.T) {
	base := func() *state.State {
		s := state.New(1, 3)
		s.Set(3, state.Lent, 4, 2, row(2, 3))
		return s
	}
	a := base()
	if !state.Same(a, base()) || !state.Same(a, a.Copy()) {
		t.Error("Same of two that are")
	}
	for i, change := range []func(s *state.State){
		func(s *state.State) { s.Set(3, state.Lent, 4, 2, row(1, 3)) },
		func(s *state.State) { s.Set(3, state.Lent, 4, 2, row(3, 3)) },
		func(s *state.State) { s.Set(3, state.Lent, 4, 0, row(2, 3)) },
		func(s *state.State) { s.Set(3, state.Lent, 5, 2, row(2, 3)) },
		func(s *state.State) { s.Set(3, state.Own, 4, 0, row(2, 3)) },
		func(s *state.State) { s.Set(15, state.Own, 1, 0, nil) },
		func(s *state.State) { s.Set(0, state.Away, 2, 0, nil) },
		func(s *state.State) {
			l := row(2, 3)
			l[1].Secret[1]++
			s.Set(3, state.Lent, 4, 2, l)
		},
	} {
		b := a.Copy()
		change(b)
		if state.Same(a, b) || state.Same(b, a) || !state.Same(a, base()) {
			t.Errorf("Same, change %d", i)
		}
	}
	b := a.Copy()
	a.Set(3, state.Own, 9, 0, nil)
	if state.Same(a, b) || !state.Same(b, base()) {
		t.Error("Copy is not by itself")
	}
	for _, s := range []*state.State{a, b} {
		x := s.Copy()
		y := s.Copy()
		was := state.New(1, 3)
		for n := range api.Shards {
			role, epoch, to := s.Role(n)
			was.Set(n, role, epoch, to, s.Vaults(n))
		}
		applied(t, x, api.Record{Kind: api.Keep, Vault: row(1, 1)[0]})
		applied(t, x, api.Record{Kind: api.Out, Shard: 7, To: 0, Epoch: 2})
		applied(t, x, api.Record{Kind: api.Done, Shard: 7, Epoch: 2})
		if !state.Same(s, was) || !state.Same(y, was) || state.Same(x, was) {
			t.Error("what is done to a copy is seen elsewhere")
		}
		applied(t, s, api.Record{Kind: api.Keep, Vault: row(1, 4)[0]})
		if !state.Same(y, was) {
			t.Error("what is done to one that was copied is seen in its copy")
		}
	}
	c := base()
	c.Apply(api.Record{Kind: api.Keep, Vault: row(1, 1)[0]})
	if state.Same(c, base()) || state.Same(nil, a) || state.Same(a, nil) || state.Same(nil, nil) {
		t.Error("Same")
	}
	// two that differ in who they are alone
	two, three := state.New(0, 2), state.New(0, 3)
	other := state.New(1, 2)
	for n := range api.Shards {
		for _, s := range []*state.State{two, three, other} {
			s.Set(n, state.Away, 1, 0, nil)
		}
	}
	if state.Same(two, three) || state.Same(two, other) {
		t.Error("Same of other members")
	}
}

func TestMemory(t *testing.T) {
	s := state.New(0, 1)
	l := row(3, 3)
	s.Apply(api.Record{Kind: api.Keep, Vault: l[0]})
	l[0].Secret[0]++
	m := row(2, 4)
	s.Set(4, state.Own, 2, 0, m)
	m[0].Secret[0]++
	m[1] = api.Vault{}
	v, _ := s.Get(l[0].ID)
	v.Secret[1] = 'x'
	s.Vaults(4)[1].Secret[0]++
	is(t, s, 3, state.Own, 1, 0, row(1, 3))
	is(t, s, 4, state.Own, 2, 0, row(2, 4))
	in := api.Record{Kind: api.In, Shard: 3, Epoch: 5, Vaults: row(2, 3)}
	s.Set(3, state.Away, 1, 0, nil)
	s.Apply(in)
	in.Vaults[0].Secret[0]++
	is(t, s, 3, state.Own, 5, 0, row(2, 3))
}

// plain is a shard as P16.2 tells it.
type plain struct {
	role   int
	epoch  uint64
	to     int
	vaults map[api.ID]api.Vault
}

// TestManyWays: two members hold shards against plain ones, whatever comes.
func TestManyWays(t *testing.T) {
	q := rand.New(rand.NewSource(16))
	rows := map[int][]api.Vault{0: row(6, 0), 1: row(6, 1)}
	for range 100 {
		s := state.New(0, 2)
		parts := []*plain{{role: state.Own, epoch: 1, vaults: map[api.ID]api.Vault{}}, {epoch: 1, vaults: map[api.ID]api.Vault{}}}
		for range 80 {
			n := q.Intn(2)
			p := parts[n]
			r := api.Record{Kind: 1 + q.Intn(4)}
			want := api.OK
			switch r.Kind {
			case api.Keep:
				r.Vault = rows[n][q.Intn(6)]
				r.Vault.Gen = uint64(1 + q.Intn(9))
				if _, there := p.vaults[r.Vault.ID]; p.role != state.Own {
					want = []api.Errno{api.ErrShard, 0, api.ErrBusy}[p.role]
				} else if !there && len(p.vaults) == 4 {
					want = api.ErrFull
				} else {
					p.vaults[r.Vault.ID] = r.Vault
				}
			case api.Out:
				r.Shard, r.To, r.Epoch = n, 1, p.epoch+uint64(q.Intn(3))
				if p.role != state.Own {
					want = []api.Errno{api.ErrShard, 0, api.ErrBusy}[p.role]
				} else if r.Epoch != p.epoch+1 {
					want = max(want, api.ErrArg)
				} else {
					p.role, p.to, p.epoch = state.Lent, 1, r.Epoch
				}
				if r.Epoch == 0 {
					want = api.ErrArg
				}
			case api.In:
				r.Shard, r.Epoch = n, p.epoch+uint64(q.Intn(3))
				r.Vaults = rows[n][:q.Intn(5)]
				if p.role == state.Own {
					want = api.ErrShard
				} else if r.Epoch <= p.epoch {
					want = api.ErrOver
				} else {
					p.role, p.to, p.epoch, p.vaults = state.Own, 0, r.Epoch, map[api.ID]api.Vault{}
					for _, v := range r.Vaults {
						p.vaults[v.ID] = v
					}
				}
			case api.Done:
				r.Shard, r.Epoch = n, p.epoch+uint64(q.Intn(2))
				if p.role != state.Lent || p.epoch != r.Epoch {
					want = api.ErrShard
				} else {
					p.role, p.to, p.vaults = state.Away, 0, map[api.ID]api.Vault{}
				}
			}
			if e := s.Apply(r); e != want {
				t.Fatalf("Apply(%+v): %d; must be %d", r, e, want)
			}
			var l []api.Vault
			for _, v := range p.vaults {
				l = append(l, v)
			}
			slices.SortFunc(l, func(a, b api.Vault) int { return bytes.Compare(a.ID[:], b.ID[:]) })
			is(t, s, n, p.role, p.epoch, p.to, l)
		}
	}
}
