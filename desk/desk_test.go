package desk_test

import (
	"bytes"
	"math"
	"testing"

	"claviger/api"
	"claviger/codec"
	"claviger/desk"
	"claviger/device"
	"claviger/envelope"
	"claviger/shard"
	"claviger/slots"
	"claviger/state"
	"claviger/vault"
)

var (
	cohort = api.Digest{1, 6, 1}
	right  = api.Digest{1}
	wrong  = api.Digest{2}
	mine   = api.Digest{3}
	key    = api.Digest{4}
)

// ids tells the first n IDs of a shard.
func ids(n, of int) (out []api.ID) {
	for i := 0; len(out) < n; i++ {
		if id := (api.ID{byte(i >> 8), byte(i), 7, 7}); shard.Of(id) == of {
			out = append(out, id)
		}
	}
	return out
}

func escrow(id api.ID) api.Request {
	return api.Request{Op: api.Escrow, ID: id, Pin: right, Secret: []byte("secret"), Limit: 3, Owner: mine, Key: key, Client: 2, Num: 9}
}

func recover1(id api.ID, pin api.Digest) api.Request {
	return api.Request{Op: api.Recover, ID: id, Pin: pin, Key: key, Client: 2, Num: 10}
}

func letter(t *testing.T, to byte, q api.Request) []byte {
	t.Helper()
	text, e := codec.Request(q)
	if e != api.OK {
		t.Fatalf("a request that may not be: %+v", q)
	}
	b, _ := envelope.Close(cohort, 77, to, text)
	return b
}

func sameRequest(a, b api.Request) bool {
	return a.Op == b.Op && a.ID == b.ID && a.Pin == b.Pin && a.Limit == b.Limit && a.Owner == b.Owner && a.Key == b.Key && a.Client == b.Client && a.Num == b.Num && bytes.Equal(a.Secret, b.Secret)
}

func sameReply(a, b api.Reply) bool {
	return a.Why == b.Why && a.ID == b.ID && a.Gen == b.Gen && a.Left == b.Left && a.Client == b.Client && a.Num == b.Num && bytes.Equal(a.Secret, b.Secret)
}

func isZero(a desk.Answer) bool {
	return len(a.Bytes) == 0 && a.Client == 0 && !a.Sent && !a.Changed && a.Deed.Member == 0 && sameRequest(a.Deed.Request, api.Request{}) && sameReply(a.Deed.Reply, api.Reply{})
}

// up is member 1 of two, so the odd shards are its own.
func up(t *testing.T) *device.Device {
	t.Helper()
	d, e := device.New(1, 2, cohort)
	if e != api.OK {
		t.Fatal(e)
	}
	return d
}

// asks asks for an answer that is sent, and holds it against what Plain tells.
func asks(t *testing.T, d *device.Device, q api.Request, why api.Errno, changed bool) api.Reply {
	t.Helper()
	v, want, changes := desk.Plain(d.View(), q)
	if want.Why != why || changes != changed {
		t.Fatalf("Plain(%+v): %+v, %v; must be %d, %v", q, want, changes, why, changed)
	}
	before, steps := d.View(), d.Steps()
	a, e := desk.Ask(d, cohort, letter(t, 1, q))
	if e != api.OK || !a.Sent || a.Changed != changed || a.Client != q.Client {
		t.Fatalf("Ask(%+v): %+v, %d", q, a, e)
	}
	text, e := envelope.Open(q.Key, byte(128+q.Client), a.Bytes)
	r, f := codec.ToReply(text)
	sealed, g := desk.Seal(q, want)
	if e != api.OK || f != api.OK || !sameReply(r, want) || g != api.OK || !bytes.Equal(sealed, a.Bytes) {
		t.Fatalf("the answer to %+v: %+v; must be %+v", q, r, want)
	}
	if changed && (a.Deed.Member != 1 || !sameRequest(a.Deed.Request, q) || !sameReply(a.Deed.Reply, want)) {
		t.Fatalf("the deed of %+v: %+v", q, a.Deed)
	}
	now, _ := d.View().Get(q.ID)
	if changed && (d.Steps() < steps+3 || !codec.Same(now, v)) || !changed && (d.Steps() != steps || !state.Same(before, d.View())) {
		t.Fatalf("%+v took %d steps", q, d.Steps()-steps)
	}
	return r
}

func refused(t *testing.T, d *device.Device, b []byte, want api.Errno) {
	t.Helper()
	steps := d.Steps()
	if a, e := desk.Ask(d, cohort, b); e != want || !isZero(a) || d.Steps() != steps {
		t.Errorf("Ask of %d bytes: %+v, %d; must be %d", len(b), a, e, want)
	}
}

// P20.2, of answers that are sent.
func TestAsk(t *testing.T) {
	d := up(t)
	id := ids(6, 3)
	asks(t, d, recover1(id[0], right), api.ErrNone, false)
	if r := asks(t, d, escrow(id[0]), api.OK, true); r.Gen != 1 || r.Left != 3 {
		t.Errorf("Escrow: %+v", r)
	}
	asks(t, d, escrow(id[0]), api.ErrThere, false)
	if r := asks(t, d, recover1(id[0], right), api.OK, false); string(r.Secret) != "secret" || r.Left != 3 {
		t.Errorf("Recover: %+v", r)
	}
	for left := 2; left >= 0; left-- {
		if r := asks(t, d, recover1(id[0], wrong), api.ErrPin, true); r.Left != left {
			t.Errorf("a wrong PIN: %+v", r)
		}
	}
	asks(t, d, recover1(id[0], right), api.ErrGone, false)
	asks(t, d, escrow(id[0]), api.OK, true)
	replace := escrow(id[0])
	replace.Op, replace.Owner = api.Replace, wrong
	asks(t, d, replace, api.ErrOwner, false)
	replace.Owner = mine
	asks(t, d, replace, api.OK, true)
	asks(t, d, api.Request{Op: api.Remove, ID: id[0], Owner: mine, Key: key, Client: 3}, api.OK, true)
	for _, x := range id[1:4] {
		asks(t, d, escrow(x), api.OK, true)
	}
	// The shard has MaxVaults now, one of them gone.
	asks(t, d, escrow(id[4]), api.ErrFull, false)
	asks(t, d, recover1(id[4], right), api.ErrNone, false)
	replace.ID = id[5]
	asks(t, d, replace, api.ErrNone, false)
	asks(t, d, escrow(id[0]), api.OK, true)
	asks(t, d, escrow(id[1]), api.ErrThere, false)
	asks(t, d, escrow(ids(1, 4)[0]), api.ErrShard, false)
	if e := d.Do(api.Record{Kind: api.Out, Shard: 3, To: 0, Epoch: 2}); e != api.OK {
		t.Fatal(e)
	}
	asks(t, d, recover1(id[1], right), api.ErrBusy, false)
	asks(t, d, recover1(id[1], wrong), api.ErrBusy, false)
	asks(t, d, escrow(id[5]), api.ErrBusy, false)
}

// P20.1.
func TestPlain(t *testing.T) {
	s := state.New(1, 2)
	id := ids(6, 3)
	plain := func(q api.Request, want api.Reply) {
		t.Helper()
		before := s.Copy()
		v, r, changes := desk.Plain(s, q)
		if !sameReply(r, want) || changes || !codec.Same(v, api.Vault{}) || !state.Same(before, s) {
			t.Errorf("Plain(%+v): %+v, %+v, %v", q, v, r, changes)
		}
	}
	away := ids(1, 4)[0]
	plain(escrow(away), api.Reply{Why: api.ErrShard, ID: away, Client: 2, Num: 9})
	plain(recover1(away, right), api.Reply{Why: api.ErrShard, ID: away, Client: 2, Num: 10})
	for _, x := range id[:4] {
		v, r, changes := desk.Plain(s, escrow(x))
		want, reply, _ := vault.Do(api.Vault{}, escrow(x))
		if !codec.Same(v, want) || !sameReply(r, reply) || !changes {
			t.Errorf("Plain of an Escrow: %+v, %+v, %v", v, r, changes)
		}
		if s.Apply(api.Record{Kind: api.Keep, Vault: v}) != api.OK {
			t.Fatal("Apply")
		}
	}
	plain(escrow(id[4]), api.Reply{Why: api.ErrFull, ID: id[4], Client: 2, Num: 9})
	for _, q := range []api.Request{recover1(id[0], right), recover1(id[0], wrong), escrow(id[1])} {
		was, _ := s.Get(q.ID)
		v, r, changes := desk.Plain(s, q)
		want, reply, ch := vault.Do(was, q)
		if !codec.Same(v, want) || !sameReply(r, reply) || changes != ch {
			t.Errorf("Plain(%+v): %+v, %+v, %v", q, v, r, changes)
		}
	}
	l := s.Vaults(3)
	s.Set(3, state.Lent, 5, 0, l)
	plain(recover1(id[0], right), api.Reply{Why: api.ErrBusy, ID: id[0], Client: 2, Num: 10})
	for _, change := range []func(q *api.Request){func(q *api.Request) { q.Op = 9 }, func(q *api.Request) { q.Limit = 0 }, func(q *api.Request) { q.Client = 4 }, func(q *api.Request) { q.Num = math.MaxUint64 }} {
		for _, x := range []api.ID{id[0], away, ids(1, 5)[0]} {
			q := escrow(x)
			change(&q)
			if v, r, changes := desk.Plain(s, q); !sameReply(r, api.Reply{Why: api.ErrForm}) || changes || !codec.Same(v, api.Vault{}) {
				t.Errorf("Plain of no request: %+v, %+v, %v", v, r, changes)
			}
		}
	}
	if v, r, changes := desk.Plain(nil, escrow(id[0])); !sameReply(r, api.Reply{Why: api.ErrForm}) || changes || !codec.Same(v, api.Vault{}) {
		t.Errorf("Plain of nil: %+v, %+v, %v", v, r, changes)
	}
}

func TestSeal(t *testing.T) {
	q := recover1(ids(1, 3)[0], right)
	for client := range api.MaxClients {
		q.Client = client
		r := api.Reply{Why: api.ErrPin, ID: q.ID, Gen: 4, Left: 2, Secret: []byte("abc"), Client: 1, Num: 5}
		text, _ := codec.Reply(r)
		want, _ := envelope.Close(key, q.Num, byte(128+client), text)
		if b, e := desk.Seal(q, r); e != api.OK || !bytes.Equal(b, want) {
			t.Errorf("Seal: %x, %d", b, e)
		}
	}
	for _, r := range []api.Reply{{Why: 256}, {Left: 33}, {Client: 4}, {Secret: make([]byte, 65)}} {
		if b, e := desk.Seal(q, r); e == api.OK || len(b) != 0 {
			t.Errorf("Seal(%+v): %x, %d", r, b, e)
		}
	}
}

func TestAskRefuses(t *testing.T) {
	d := up(t)
	good := letter(t, 1, escrow(ids(1, 3)[0]))
	if a, e := desk.Ask(nil, cohort, good); e != api.ErrArg || !isZero(a) {
		t.Errorf("Ask of nil: %d", e)
	}
	refused(t, d, nil, api.ErrForm)
	refused(t, d, make([]byte, 15), api.ErrForm)
	refused(t, d, make([]byte, 16), api.ErrSeal)
	refused(t, d, make([]byte, api.MaxSlot+1), api.ErrLong)
	refused(t, d, letter(t, 0, escrow(ids(1, 3)[0])), api.ErrSeal)
	turned := bytes.Clone(good)
	turned[20] ^= 1
	refused(t, d, turned, api.ErrSeal)
	if a, e := desk.Ask(d, api.Digest{}, good); e != api.ErrSeal || !isZero(a) {
		t.Errorf("Ask of another cohort: %d", e)
	}
	text, _ := codec.Request(escrow(ids(1, 3)[0]))
	for _, x := range [][]byte{nil, {1}, text[1:], append(bytes.Clone(text), 0)} {
		b, _ := envelope.Close(cohort, 5, 1, x)
		refused(t, d, b, api.ErrForm)
	}
	d.Stop()
	refused(t, d, good, api.ErrDown)
	refused(t, d, nil, api.ErrDown)
	d.Swap(nil)
	d.Start()
	d.Stop()
	down := up(t)
	down.Do(api.Record{Kind: api.Out, Shard: 3, To: 0, Epoch: 2})
	down.Stop()
	down.Swap(slots.New())
	down.Start()
	refused(t, down, good, api.ErrRefused)
	refused(t, down, nil, api.ErrRefused)
}

// A crash in place of each step: no answer; Changed, and the deed, once the register was advanced.
func TestAskCrashes(t *testing.T) {
	for ahead := range 9 {
		for n := range 7 {
			d := up(t)
			id := ids(1, 3)[0]
			q := escrow(id)
			q.Limit = 32
			asks(t, d, q, api.OK, true)
			for range ahead {
				asks(t, d, recover1(id, wrong), api.ErrPin, true)
			}
			steps := 3
			if ahead == 6 {
				steps = 6
			}
			if n >= steps {
				continue
			}
			_, want, _ := desk.Plain(d.View(), recover1(id, wrong))
			count := d.Register().Count
			d.Fuse(n, 4)
			a, e := desk.Ask(d, cohort, letter(t, 1, recover1(id, wrong)))
			if e != api.ErrDown || a.Sent || len(a.Bytes) != 0 || a.Client != 0 || a.Changed != (n >= 3) || d.Register().Count > count != (n >= 3) {
				t.Fatalf("%d records, %d steps: %+v, %d", ahead, n, a, e)
			}
			if n < 3 && !isZero(a) || n >= 3 && (a.Deed.Member != 1 || !sameRequest(a.Deed.Request, recover1(id, wrong)) || !sameReply(a.Deed.Reply, want)) {
				t.Fatalf("%d records, %d steps: %+v", ahead, n, a.Deed)
			}
			// What is not changed takes no step, so no fuse burns.
			if d.Start() != api.OK {
				t.Fatal("Start")
			}
			d.Fuse(0, 0)
			asks(t, d, recover1(id, right), api.OK, false)
			refusedDown, e := desk.Ask(d, cohort, letter(t, 1, recover1(id, wrong)))
			if e != api.ErrDown || !isZero(refusedDown) {
				t.Fatalf("behind the fuse: %+v, %d", refusedDown, e)
			}
		}
	}
}

func TestMemory(t *testing.T) {
	d := up(t)
	id := ids(1, 3)[0]
	b := letter(t, 1, escrow(id))
	was := bytes.Clone(b)
	a, _ := desk.Ask(d, cohort, b)
	if !bytes.Equal(b, was) {
		t.Error("Ask changed what it was given")
	}
	a.Deed.Request.Secret[0]++
	for i := range b {
		b[i] = 0
	}
	if v, _ := d.View().Get(id); string(v.Secret) != "secret" {
		t.Error("memory is shared")
	}
	s := d.View()
	v, r, _ := desk.Plain(s, recover1(id, right))
	v.Secret[0]++
	if string(r.Secret) != "secret" {
		t.Error("Plain's lists share memory")
	}
	if v, _ := s.Get(id); string(v.Secret) != "secret" {
		t.Error("Plain shares memory with the state")
	}
}
