package client_test

import (
	"bytes"
	"math"
	"slices"
	"testing"

	"claviger/api"
	"claviger/blend"
	"claviger/client"
	"claviger/codec"
	"claviger/envelope"
	"claviger/stretch"
)

var (
	cohort = api.Digest{8, 8, 8}
	id     = api.ID{1, 2, 3, 4}
)

func wish(op int) client.Wish {
	return client.Wish{Op: op, ID: id, Pin: "12-34", Secret: []byte("secret"), Limit: 5, Owner: "me"}
}

func key(n int, num uint64) api.Digest {
	return blend.Keyed(cohort, slices.Concat([]byte("client"), []byte{byte(n)}, blend.Number(num)))
}

func sameRequest(a, b api.Request) bool {
	return a.Op == b.Op && a.ID == b.ID && a.Pin == b.Pin && a.Limit == b.Limit && a.Owner == b.Owner && a.Key == b.Key && a.Client == b.Client && a.Num == b.Num && bytes.Equal(a.Secret, b.Secret)
}

func sameReply(a, b api.Reply) bool {
	return a.Why == b.Why && a.ID == b.ID && a.Gen == b.Gen && a.Left == b.Left && a.Client == b.Client && a.Num == b.Num && bytes.Equal(a.Secret, b.Secret)
}

// plain is P22.1's Request of a wish that may be, word for word.
func plain(n int, num uint64, w client.Wish) api.Request {
	pin, _ := stretch.Pin(w.Pin, w.ID)
	owner := blend.Sum([]byte(w.Owner))
	q := api.Request{Op: w.Op, ID: w.ID, Key: key(n, num), Client: n, Num: num}
	switch w.Op {
	case api.Escrow, api.Replace:
		q.Pin, q.Owner, q.Limit, q.Secret = pin, owner, w.Limit, w.Secret
	case api.Recover:
		q.Pin = pin
	case api.Remove:
		q.Owner = owner
	}
	return q
}

// P22.1.
func TestRequest(t *testing.T) {
	for n := range api.MaxClients {
		for op := api.Escrow; op <= api.Remove; op++ {
			for _, num := range []uint64{0, 1, 0x0102, api.MaxCount} {
				for _, change := range []func(w *client.Wish){
					func(w *client.Wish) {},
					func(w *client.Wish) { w.Secret, w.Owner = nil, "" },
					func(w *client.Wish) { w.Secret, w.Limit = make([]byte, api.MaxSecret), api.MaxLimit },
					func(w *client.Wish) { w.Limit, w.Owner, w.Pin = 1, "\xff not a text \x00", "\uff11234567890 12" },
				} {
					w := wish(op)
					change(&w)
					if q, e := client.Request(n, num, cohort, w); e != api.OK || !sameRequest(q, plain(n, num, w)) {
						t.Fatalf("Request(%d, %d, %+v): %+v, %d", n, num, w, q, e)
					}
				}
			}
		}
	}
}

func TestRequestRefuses(t *testing.T) {
	refused := func(n int, num uint64, w client.Wish, want api.Errno) {
		t.Helper()
		if q, e := client.Request(n, num, cohort, w); e != want || !sameRequest(q, api.Request{}) {
			t.Errorf("Request(%d, %d, %+v): %+v, %d; must be %d", n, num, w, q, e, want)
		}
	}
	for op := api.Escrow; op <= api.Remove; op++ {
		for _, pin := range []string{"", "12", "123", "1234567890123", "12a4", "\xff1234"} {
			w := wish(op)
			w.Pin = pin
			if op == api.Remove { // its PIN is not asked
				if q, e := client.Request(1, 2, cohort, w); e != api.OK || q.Pin != (api.Digest{}) {
					t.Errorf("Request of a Remove: %+v, %d", q, e)
				}
				continue
			}
			refused(1, 2, w, api.ErrPin)
			w.Limit = 99
			refused(9, math.MaxUint64, w, api.ErrPin) // ErrPin comes first
		}
		for _, n := range []int{-1, api.MaxClients, 256, math.MinInt, math.MaxInt} {
			refused(n, 2, wish(op), api.ErrArg)
		}
		refused(1, api.MaxCount+1, wish(op), api.ErrArg)
		passedBy := op == api.Recover || op == api.Remove
		for _, change := range []func(w *client.Wish){
			func(w *client.Wish) { w.Limit = 0 }, func(w *client.Wish) { w.Limit = -1 }, func(w *client.Wish) { w.Limit = api.MaxLimit + 1 },
			func(w *client.Wish) { w.Limit = math.MaxInt }, func(w *client.Wish) { w.Secret = make([]byte, api.MaxSecret+1) },
		} {
			w := wish(op)
			change(&w)
			if !passedBy {
				refused(1, 2, w, api.ErrArg)
			} else if q, e := client.Request(1, 2, cohort, w); e != api.OK || !sameRequest(q, plain(1, 2, w)) {
				t.Errorf("Request(%+v): %+v, %d", w, q, e)
			}
		}
	}
	for _, op := range []int{0, 5, -1, math.MinInt, math.MaxInt} {
		refused(1, 2, wish(op), api.ErrArg)
		w := wish(op)
		w.Pin = "1"
		refused(1, 2, w, api.ErrArg)
	}
}

func fresh(t *testing.T, n int) *client.Client {
	t.Helper()
	c, e := client.New(n, cohort)
	if e != api.OK || c.Asked() != 0 || c.Waits() != 0 {
		t.Fatalf("New(%d): %d", n, e)
	}
	return c
}

// P22.2.
func TestNew(t *testing.T) {
	for n := range api.MaxClients {
		fresh(t, n)
	}
	for _, n := range []int{-1, api.MaxClients, math.MinInt, math.MaxInt} {
		if c, e := client.New(n, cohort); e != api.ErrArg || c != nil {
			t.Errorf("New(%d): %d", n, e)
		}
	}
}

func TestMake(t *testing.T) {
	for n := range api.MaxClients {
		c := fresh(t, n)
		num := uint64(0)
		for member := range api.MaxMembers {
			for op := api.Escrow; op <= api.Remove; op++ {
				b, q, e := c.Make(member, wish(op))
				want := plain(n, num, wish(op))
				text, _ := codec.Request(want)
				closed, _ := envelope.Close(cohort, num*4+uint64(n), byte(member), text)
				if e != api.OK || !sameRequest(q, want) || !bytes.Equal(b, closed) {
					t.Fatalf("Make(%d, %d): %+v, %d", member, op, q, e)
				}
				num++
				bad := wish(api.Escrow)
				bad.Pin = "12"
				long := wish(api.Replace)
				long.Secret = make([]byte, 65)
				for _, x := range []struct {
					member int
					w      client.Wish
					want   api.Errno
				}{{-1, bad, api.ErrArg}, {8, bad, api.ErrArg}, {256, wish(1), api.ErrArg}, {math.MinInt, wish(1), api.ErrArg}, {member, bad, api.ErrPin}, {member, long, api.ErrArg}, {member, wish(9), api.ErrArg}} {
					if b, q, e := c.Make(x.member, x.w); e != x.want || len(b) != 0 || !sameRequest(q, api.Request{}) {
						t.Fatalf("Make(%d, %+v): %d", x.member, x.w, e)
					}
				}
				if c.Asked() != num || c.Waits() != int(num) {
					t.Fatalf("Asked %d, Waits %d", c.Asked(), c.Waits())
				}
			}
		}
	}
}

func answer(n int, num uint64, r api.Reply) []byte {
	text, _ := codec.Reply(r)
	b, _ := envelope.Close(key(n, num), num, byte(128+n), text)
	return b
}

func TestOpen(t *testing.T) {
	c := fresh(t, 2)
	opens := func(b []byte, want api.Reply, e api.Errno, waits int) {
		t.Helper()
		was := bytes.Clone(b)
		if r, got := c.Open(b); got != e || !sameReply(r, want) || c.Waits() != waits || !bytes.Equal(b, was) {
			t.Errorf("Open(%x): %+v, %d, Waits %d; must be %+v, %d, %d", b, r, got, c.Waits(), want, e, waits)
		}
	}
	reply := func(num uint64) api.Reply {
		return api.Reply{Why: api.ErrPin, ID: id, Gen: 4, Left: 3, Secret: []byte("abc"), Client: 2, Num: num}
	}
	none := api.Reply{}
	for n := range 8 {
		opens(make([]byte, n), none, api.ErrForm, 0)
	}
	opens(make([]byte, 8), none, api.ErrNone, 0)
	opens(answer(2, 0, reply(0)), none, api.ErrNone, 0)
	for range 3 {
		c.Make(1, wish(api.Recover))
	}
	opens(make([]byte, 7), none, api.ErrForm, 3)
	for n := 8; n < 16; n++ {
		opens(make([]byte, n), none, api.ErrForm, 3)
	}
	opens(make([]byte, 16), none, api.ErrSeal, 3)
	opens(make([]byte, api.MaxSlot+1), none, api.ErrLong, 3)
	opens(answer(2, 3, reply(3)), none, api.ErrNone, 3)
	opens(append(blend.Number(math.MaxUint64), make([]byte, 30)...), none, api.ErrNone, 3)
	opens(append(blend.Number(3), make([]byte, api.MaxSlot)...), none, api.ErrNone, 3)
	opens(answer(1, 1, reply(1)), none, api.ErrSeal, 3)
	turned := answer(2, 1, reply(1))
	turned[12] ^= 1
	opens(turned, none, api.ErrSeal, 3)
	text, _ := codec.Reply(reply(1))
	for _, to := range []byte{2, 129, 66, 131} {
		b, _ := envelope.Close(key(2, 1), 1, to, text)
		opens(b, none, api.ErrSeal, 3)
	}
	b, _ := envelope.Close(key(2, 1), 1, 130, text[1:])
	opens(b, none, api.ErrForm, 3)
	opens(answer(2, 1, reply(2)), none, api.ErrForm, 3)
	other := reply(1)
	other.Client = 1
	opens(answer(2, 1, other), none, api.ErrForm, 3)
	opens(answer(2, 1, reply(1)), reply(1), api.OK, 2)
	opens(answer(2, 1, reply(1)), reply(1), api.OK, 2) // twice: told twice
	changed := reply(1)
	changed.Why, changed.Secret = api.OK, nil
	opens(answer(2, 1, changed), changed, api.OK, 2)
	opens(answer(2, 0, reply(0)), reply(0), api.OK, 1)
	c.Make(0, wish(api.Remove))
	opens(answer(2, 3, reply(3)), reply(3), api.OK, 1)
	opens(answer(2, 2, reply(2)), reply(2), api.OK, 0)
	if c.Asked() != 4 {
		t.Errorf("Asked: %d", c.Asked())
	}
}

func TestMemory(t *testing.T) {
	c := fresh(t, 0)
	w := wish(api.Escrow)
	room := []byte("secret and more")
	w.Secret = room[:6]
	_, q, _ := c.Make(0, w)
	room[0] = 'x'
	if string(q.Secret) != "secret" {
		t.Error("Make keeps what was handed in")
	}
	q.Secret[1] = 'y'
	_ = append(q.Secret, 'z')
	if string(room) != "xecret and more" {
		t.Error("Make's answer shares memory")
	}
}
