package handoff_test

import (
	"bytes"
	"math"
	"slices"
	"testing"

	"claviger/api"
	"claviger/blend"
	"claviger/codec"
	"claviger/envelope"
	"claviger/handoff"
	"claviger/shard"
	"claviger/state"
)

var cohort = api.Digest{2, 7, 1}

// row tells n vaults of a shard, by rising ID.
func row(n, of int) (out []api.Vault) {
	for i := 0; len(out) < n; i++ {
		if id := (api.ID{byte(i >> 8), byte(i), 7, 7}); shard.Of(id) == of {
			out = append(out, api.Vault{ID: id, Gen: uint64(i + 1), Pin: api.Digest{1}, Secret: []byte("abc"), Limit: 5, Used: 1, Owner: api.Digest{2}})
		}
	}
	return out
}

func same(a, b handoff.Parcel) bool {
	return a.From == b.From && a.Shard == b.Shard && a.Epoch == b.Epoch && slices.EqualFunc(a.Vaults, b.Vaults, codec.Same)
}

func parcels() []handoff.Parcel {
	return []handoff.Parcel{
		{From: 0, Shard: 0, Epoch: 1},
		{From: 7, Shard: 15, Epoch: api.MaxCount, Vaults: row(4, 15)},
		{From: 3, Shard: 4, Epoch: 0x0102, Vaults: row(1, 4)},
	}
}

// P19.1.
func TestCloseAndOpen(t *testing.T) {
	for _, p := range parcels() {
		record, _ := codec.Record(api.Record{Kind: api.In, Shard: p.Shard, Epoch: p.Epoch, Vaults: p.Vaults})
		for to := range api.MaxMembers {
			b, e := handoff.Close(cohort, to, p)
			want, _ := envelope.Close(cohort, p.Epoch*16+uint64(p.Shard), byte(64+to), append([]byte{byte(p.From)}, record...))
			if e != api.OK || !bytes.Equal(b, want) {
				t.Fatalf("Close(cohort, %d, %+v): %d", to, p, e)
			}
			if back, e := handoff.Open(cohort, to, b); e != api.OK || !same(back, p) {
				t.Errorf("Open: %+v, %d", back, e)
			}
			for other := range api.MaxMembers {
				if other != to {
					refuses(t, "for another member", other, b, api.ErrSeal)
				}
			}
			if tk, e := handoff.Thanked(cohort, to, b); e != api.ErrSeal || tk != (handoff.Token{}) {
				t.Errorf("Thanked of a parcel: %d", e)
			}
		}
	}
}

func refuses(t *testing.T, what string, to int, b []byte, want api.Errno) {
	t.Helper()
	if p, e := handoff.Open(cohort, to, b); e != want || !same(p, handoff.Parcel{}) {
		t.Errorf("Open of %s: %+v, %d; must be %d", what, p, e, want)
	}
}

func TestOpenRefuses(t *testing.T) {
	b, _ := handoff.Close(cohort, 2, parcels()[2])
	for i := range b {
		turned := bytes.Clone(b)
		turned[i] ^= 2
		refuses(t, "a turned byte", 2, turned, api.ErrSeal)
	}
	for n := range 16 {
		refuses(t, "few bytes", 2, make([]byte, n), api.ErrForm)
	}
	refuses(t, "many bytes", 2, make([]byte, api.MaxSlot+1), api.ErrLong)
	in, _ := codec.Record(api.Record{Kind: api.In, Shard: 4, Epoch: 9})
	keep, _ := codec.Record(api.Record{Kind: api.Keep, Vault: row(1, 4)[0]})
	done, _ := codec.Record(api.Record{Kind: api.Done, Shard: 4, Epoch: 9})
	out, _ := codec.Record(api.Record{Kind: api.Out, Shard: 4, To: 1, Epoch: 9})
	sealed := func(seed uint64, text ...byte) []byte {
		b, _ := envelope.Close(cohort, seed, 66, text)
		return b
	}
	seed := uint64(9*16 + 4)
	if p, e := handoff.Open(cohort, 2, sealed(seed, append([]byte{1}, in...)...)); e != api.OK || p.From != 1 {
		t.Errorf("Open: %d", e)
	}
	for _, text := range [][]byte{nil, {1}, in, append([]byte{8}, in...), append([]byte{255}, in...), append([]byte{1}, keep...), append([]byte{1}, done...), append([]byte{1}, out...), append(append([]byte{1}, in...), 0), append([]byte{1}, in[:len(in)-1]...)} {
		refuses(t, "no parcel", 2, sealed(seed, text...), api.ErrForm)
		refuses(t, "no parcel under another number", 2, sealed(12345, text...), api.ErrForm)
	}
	for _, to := range []int{2 + 256, 2 - 256, 2 + 1<<32} {
		refuses(t, "a letter to no member", to, b, api.ErrForm)
	}
	refuses(t, "a letter to no member", math.MinInt, b, api.ErrSeal)
	refuses(t, "a letter to no member", math.MaxInt, b, api.ErrSeal)
}

// P19.1, P19.2: the number that a letter was closed under is not asked.
func TestAnyNumber(t *testing.T) {
	for _, p := range parcels() {
		record, _ := codec.Record(handoff.Record(p))
		tk := handoff.Token{From: p.From, Shard: p.Shard, Epoch: p.Epoch}
		token := append([]byte{byte(p.From), byte(p.Shard)}, blend.Number(p.Epoch)...)
		of := p.Epoch*16 + uint64(p.Shard)
		for _, n := range []uint64{0, 1, 12345, of - 1, of, of + 1, math.MaxUint64} {
			b, _ := envelope.Close(cohort, n, 64+5, append([]byte{byte(p.From)}, record...))
			if back, e := handoff.Open(cohort, 5, b); e != api.OK || !same(back, p) {
				t.Errorf("Open of a parcel under %d: %+v, %d", n, back, e)
			}
			refuses(t, "one for another member", 4, b, api.ErrSeal)
			b, _ = envelope.Close(cohort, n, 96+5, token)
			if back, e := handoff.Thanked(cohort, 5, b); e != api.OK || back != tk {
				t.Errorf("Thanked of thanks under %d: %+v, %d", n, back, e)
			}
			if back, e := handoff.Thanked(cohort, 4, b); e != api.ErrSeal || back != (handoff.Token{}) {
				t.Errorf("Thanked for another member: %+v, %d", back, e)
			}
		}
	}
}

func TestCloseRefuses(t *testing.T) {
	with := func(to int, change func(p *handoff.Parcel)) {
		t.Helper()
		p := parcels()[2]
		change(&p)
		if b, e := handoff.Close(cohort, to, p); e != api.ErrArg || len(b) != 0 {
			t.Errorf("Close to %d of %+v: %d", to, p, e)
		}
	}
	for _, n := range []int{-1, api.MaxMembers, 9, 256, math.MaxInt, math.MinInt} {
		with(n, func(p *handoff.Parcel) {})
		with(1, func(p *handoff.Parcel) { p.From = n })
	}
	for _, n := range []int{-1, api.Shards, 260, math.MaxInt} {
		with(1, func(p *handoff.Parcel) { p.Shard = n })
	}
	with(1, func(p *handoff.Parcel) { p.Epoch = 0 })
	with(1, func(p *handoff.Parcel) { p.Epoch = api.MaxCount + 1 })
	with(1, func(p *handoff.Parcel) { p.Vaults = row(5, 4) })
	with(1, func(p *handoff.Parcel) { p.Vaults = []api.Vault{{}} })
	with(1, func(p *handoff.Parcel) { p.Vaults = append(row(1, 4), row(1, 4)...) })
}

// P19.2.
func TestThanks(t *testing.T) {
	for _, tk := range []handoff.Token{{From: 0, Shard: 0, Epoch: 1}, {From: 7, Shard: 15, Epoch: api.MaxCount}, {From: 2, Shard: 3, Epoch: 0x0405}} {
		for to := range api.MaxMembers {
			b, e := handoff.Thanks(cohort, to, tk)
			text := append([]byte{byte(tk.From), byte(tk.Shard)}, blend.Number(tk.Epoch)...)
			want, _ := envelope.Close(cohort, tk.Epoch*16+uint64(tk.Shard), byte(96+to), text)
			if e != api.OK || !bytes.Equal(b, want) {
				t.Fatalf("Thanks(cohort, %d, %+v): %d", to, tk, e)
			}
			if back, e := handoff.Thanked(cohort, to, b); e != api.OK || back != tk {
				t.Errorf("Thanked: %+v, %d", back, e)
			}
			if back, e := handoff.Thanked(cohort, (to+1)%8, b); e != api.ErrSeal || back != (handoff.Token{}) {
				t.Errorf("Thanked for another member: %+v, %d", back, e)
			}
			refuses(t, "thanks", to, b, api.ErrSeal)
		}
	}
	for _, c := range []struct {
		to int
		tk handoff.Token
	}{
		{-1, handoff.Token{Epoch: 1}}, {8, handoff.Token{Epoch: 1}}, {math.MaxInt, handoff.Token{Epoch: 1}}, {0, handoff.Token{From: -1, Epoch: 1}}, {0, handoff.Token{From: 8, Epoch: 1}},
		{0, handoff.Token{Shard: -1, Epoch: 1}}, {0, handoff.Token{Shard: 16, Epoch: 1}}, {0, handoff.Token{}}, {0, handoff.Token{Epoch: api.MaxCount + 1}}, {0, handoff.Token{Epoch: math.MaxUint64}},
	} {
		if b, e := handoff.Thanks(cohort, c.to, c.tk); e != api.ErrArg || len(b) != 0 {
			t.Errorf("Thanks to %d, %+v: %d", c.to, c.tk, e)
		}
	}
	thanked := func(b []byte, want api.Errno) {
		t.Helper()
		if tk, e := handoff.Thanked(cohort, 2, b); e != want || tk != (handoff.Token{}) {
			t.Errorf("Thanked(%x): %+v, %d", b, tk, e)
		}
	}
	for n := range 16 {
		thanked(make([]byte, n), api.ErrForm)
	}
	thanked(make([]byte, 30), api.ErrSeal)
	thanked(make([]byte, api.MaxSlot+1), api.ErrLong)
	for _, text := range [][]byte{nil, {1}, {1, 2}, {1, 2, 0, 0, 0, 0, 0, 0, 9}, {1, 2, 0, 0, 0, 0, 0, 0, 0, 0}, {1, 2, 0, 0, 1, 0, 0, 0, 0, 1}, {1, 2, 255, 255, 255, 255, 255, 255, 255, 255}, {255, 2, 0, 0, 0, 0, 0, 0, 0, 1}, {1, 255, 0, 0, 0, 0, 0, 0, 0, 1}, {8, 2, 0, 0, 0, 0, 0, 0, 0, 1}, {1, 16, 0, 0, 0, 0, 0, 0, 0, 1}, {1, 2, 0, 0, 0, 0, 0, 0, 0, 0, 1}, {1, 2, 1, 0, 0, 0, 0, 0, 0, 1}} {
		seed := uint64(0)
		for _, x := range text[min(2, len(text)):] {
			seed = seed<<8 | uint64(x)
		}
		for _, n := range []uint64{seed*16 + 2, 12345} {
			b, _ := envelope.Close(cohort, n, 98, text)
			thanked(b, api.ErrForm)
		}
	}
	b, _ := handoff.Thanks(cohort, 2, handoff.Token{From: 1, Shard: 2, Epoch: 3})
	for to, want := range map[int]api.Errno{2 + 256: api.ErrForm, 2 - 256: api.ErrForm, math.MinInt: api.ErrSeal, math.MaxInt: api.ErrSeal} {
		if tk, e := handoff.Thanked(cohort, to, b); e != want || tk != (handoff.Token{}) {
			t.Errorf("Thanked for %d: %+v, %d", to, tk, e)
		}
	}
}

func TestOfAndRecord(t *testing.T) {
	s := state.New(1, 3)
	s.Set(4, state.Lent, 7, 2, row(2, 4))
	s.Set(5, state.Lent, 8, 0, nil)
	s.Set(7, state.Own, 9, 0, row(1, 7))
	p, to, ok := handoff.Of(s, 4)
	if !ok || to != 2 || !same(p, handoff.Parcel{From: 1, Shard: 4, Epoch: 7, Vaults: row(2, 4)}) {
		t.Errorf("Of: %+v, %d, %v", p, to, ok)
	}
	p.Vaults[0].Secret[0]++
	p, to, ok = handoff.Of(s, 5)
	if !ok || to != 0 || !same(p, handoff.Parcel{From: 1, Shard: 5, Epoch: 8}) {
		t.Errorf("Of: %+v, %d, %v", p, to, ok)
	}
	if !slices.EqualFunc(s.Vaults(4), row(2, 4), codec.Same) {
		t.Error("Of shares memory")
	}
	for _, n := range []int{0, 7, 10, -1, 16, math.MaxInt} {
		if p, to, ok := handoff.Of(s, n); ok || to != 0 || !same(p, handoff.Parcel{}) {
			t.Errorf("Of(s, %d): %+v, %d, %v", n, p, to, ok)
		}
	}
	if p, to, ok := handoff.Of(nil, 4); ok || to != 0 || !same(p, handoff.Parcel{}) {
		t.Errorf("Of(nil): %+v, %d, %v", p, to, ok)
	}
	in := handoff.Parcel{From: 5, Shard: 4, Epoch: 7, Vaults: row(2, 4)}
	r := handoff.Record(in)
	if r.Kind != api.In || r.Shard != 4 || r.Epoch != 7 || r.To != 0 || !codec.Same(r.Vault, api.Vault{}) || !slices.EqualFunc(r.Vaults, in.Vaults, codec.Same) {
		t.Errorf("Record: %+v", r)
	}
	r.Vaults[0].Secret[0]++
	r.Vaults[1].Gen++
	if !slices.EqualFunc(in.Vaults, row(2, 4), codec.Same) {
		t.Error("Record shares memory")
	}
}
