package cohort_test

import (
	"bytes"
	"math"
	"slices"
	"testing"

	"claviger/api"
	"claviger/blend"
	"claviger/client"
	"claviger/codec"
	"claviger/cohort"
	"claviger/desk"
	"claviger/envelope"
	"claviger/handoff"
	"claviger/shard"
	"claviger/slots"
	"claviger/state"
)

// ids tells the first n IDs of a shard.
func ids(n, of int) (out []api.ID) {
	for i := 0; len(out) < n; i++ {
		if id := (api.ID{byte(i >> 8), byte(i), 7, 7}); shard.Of(id) == of {
			out = append(out, id)
		}
	}
	return out
}

func world(t *testing.T, members, clients int) *cohort.World {
	t.Helper()
	w, e := cohort.New(cohort.Config{Members: members, Clients: clients, Seed: 5})
	if e != api.OK {
		t.Fatalf("New: %d", e)
	}
	return w
}

func sameReply(a, b api.Reply) bool {
	return a.Why == b.Why && a.ID == b.ID && a.Gen == b.Gen && a.Left == b.Left && a.Client == b.Client && a.Num == b.Num && bytes.Equal(a.Secret, b.Secret)
}

func sameLetter(a, b api.Letter) bool {
	return a.Kind == b.Kind && a.From == b.From && a.To == b.To && bytes.Equal(a.Bytes, b.Bytes)
}

// does does an item and asks what comes of it; a reply must be none.
func does(t *testing.T, w *cohort.World, x api.Item, why api.Errno, n int) {
	t.Helper()
	if o := w.Do(x, "", ""); o.Kind != x.Kind || o.Why != why || o.N != n || !sameReply(o.Reply, api.Reply{}) {
		t.Fatalf("Do(%+v): %+v; must be %d, %d", x, o, why, n)
	}
}

func escrow(id api.ID) api.Request {
	return api.Request{Op: api.Escrow, ID: id, Secret: []byte("secret"), Limit: 3}
}

func send(member, from int, q api.Request) api.Item {
	return api.Item{Kind: api.Send, Member: member, Client: from, Request: q}
}

// sends sends a request with a PIN and an owner.
func sends(t *testing.T, w *cohort.World, x api.Item, pin, owner string, why api.Errno) {
	t.Helper()
	if o := w.Do(x, pin, owner); o.Kind != api.Send || o.Why != why || o.N != 0 || !sameReply(o.Reply, api.Reply{}) {
		t.Fatalf("Send of %+v: %+v; must be %d", x, o, why)
	}
}

// told sends a request and tells its reply.
func told(t *testing.T, w *cohort.World, x api.Item, pin, owner string) api.Reply {
	t.Helper()
	sends(t, w, x, pin, owner, api.OK)
	w.Do(api.Item{Kind: api.Settle}, "", "")
	l := w.Replies()
	if len(l) == 0 {
		t.Fatal("no reply")
	}
	return l[len(l)-1]
}

func TestNew(t *testing.T) {
	for _, c := range []cohort.Config{{}, {Members: 1}, {Clients: 1}, {Members: 9, Clients: 1}, {Members: 1, Clients: 5}, {Members: -1, Clients: 1}, {Members: 1, Clients: -1}, {Members: math.MaxInt, Clients: math.MinInt}} {
		if w, e := cohort.New(c); e != api.ErrArg || w != nil {
			t.Errorf("New(%+v): %d", c, e)
		}
	}
	for members := 1; members <= 8; members++ {
		for clients := 1; clients <= 4; clients++ {
			w, e := cohort.New(cohort.Config{Members: members, Clients: clients, Seed: 77})
			if e != api.OK || w.Key() != blend.Sum(blend.Number(77)) || !slices.Equal(w.Owners(), shard.Home(members)) {
				t.Fatalf("New: %d", e)
			}
			for i := -1; i < 10; i++ {
				d := w.Member(i)
				if (d != nil) != (i >= 0 && i < members) || d != nil && d.Is() != api.Up {
					t.Errorf("Member(%d)", i)
				}
			}
			if len(w.Office()) != 0 || len(w.Deeds()) != 0 || len(w.Replies()) != 0 {
				t.Error("a new world")
			}
		}
	}
}

// P24.1: Send.
func TestSend(t *testing.T) {
	w := world(t, 2, 2)
	id := ids(1, 0)[0]
	twin, _ := client.New(1, w.Key())
	for _, x := range []struct {
		member, from int
	}{{-1, 0}, {2, 0}, {0, -1}, {0, 2}, {math.MaxInt, math.MinInt}} {
		sends(t, w, send(x.member, x.from, escrow(id)), "12", "me", api.ErrArg)
	}
	sends(t, w, send(0, 1, escrow(id)), "12", "me", api.ErrPin)
	sends(t, w, send(0, 1, api.Request{Op: 9}), "1234", "me", api.ErrArg)
	if len(w.Office()) != 0 {
		t.Error("what is refused sends a letter")
	}
	var want []api.Letter
	for i, x := range []struct {
		q     api.Request
		pin   string
		owner string
	}{{escrow(id), "12-34", "me"}, {api.Request{Op: api.Recover, ID: id, Pin: api.Digest{1}, Limit: 99, Num: 7, Client: 3, Key: api.Digest{2}, Owner: api.Digest{3}}, "1235", ""}, {api.Request{Op: api.Remove, ID: id}, "", "me"}} {
		sends(t, w, send(i%2, 1, x.q), x.pin, x.owner, api.OK)
		b, _, _ := twin.Make(i%2, client.Wish{Op: x.q.Op, ID: id, Pin: x.pin, Secret: x.q.Secret, Limit: x.q.Limit, Owner: x.owner})
		want = append(want, api.Letter{Kind: api.Ask, From: 1, To: i % 2, Bytes: b})
		if !slices.EqualFunc(w.Office(), want, sameLetter) {
			t.Fatalf("the letters behind request %d", i)
		}
	}
}

func TestSendToAFullOffice(t *testing.T) {
	w := world(t, 1, 1)
	id := ids(1, 0)[0]
	for range api.MaxNet {
		does(t, w, api.Item{Kind: api.Inject}, api.OK, 0)
	}
	sends(t, w, send(0, 0, escrow(id)), "1", "me", api.ErrPin)
	sends(t, w, send(0, 0, api.Request{Op: api.Escrow}), "1234", "me", api.ErrArg)
	sends(t, w, send(0, 0, escrow(id)), "1234", "me", api.ErrFull)
	if len(w.Office()) != api.MaxNet {
		t.Error("a letter more than there may be")
	}
	does(t, w, api.Item{Kind: api.Inject}, api.ErrFull, 0)
	does(t, w, api.Item{Kind: api.Double}, api.ErrNone, 0)
	does(t, w, api.Item{Kind: api.Lose, N: 63}, api.OK, 0)
	sends(t, w, send(0, 0, escrow(id)), "1234", "me", api.OK)
	does(t, w, api.Item{Kind: api.Settle}, api.OK, 65)
	// R3: what was refused has taken no number.
	if l := w.Replies(); len(l) != 1 || l[0].Why != api.OK || l[0].Num != 0 {
		t.Errorf("Replies: %+v", l)
	}
}

// P24.1: Deliver of requests and answers.
func TestDeliver(t *testing.T) {
	w := world(t, 2, 2)
	id := ids(1, 0)[0]
	does(t, w, api.Item{Kind: api.Deliver}, api.ErrNone, 0)
	does(t, w, api.Item{Kind: api.Deliver, N: -1}, api.ErrNone, 0)
	sends(t, w, send(0, 1, escrow(id)), "1234", "me", api.OK)
	does(t, w, api.Item{Kind: api.Deliver, N: 1}, api.ErrNone, 0)
	does(t, w, api.Item{Kind: api.Deliver, N: 0}, api.OK, 3)
	q, _ := client.Request(1, 0, w.Key(), client.Wish{Op: api.Escrow, ID: id, Pin: "1234", Secret: []byte("secret"), Limit: 3, Owner: "me"})
	want := api.Reply{ID: id, Gen: 1, Left: 3, Client: 1}
	b, _ := desk.Seal(q, want)
	if !slices.EqualFunc(w.Office(), []api.Letter{{Kind: api.Answer, From: 0, To: 1, Bytes: b}}, sameLetter) {
		t.Errorf("Office: %+v", w.Office())
	}
	if l := w.Deeds(); len(l) != 1 || l[0].Member != 0 || !sameReply(l[0].Reply, want) || l[0].Request.Num != 0 || l[0].Request.Op != api.Escrow || string(l[0].Request.Secret) != "secret" {
		t.Errorf("Deeds: %+v", l)
	}
	if len(w.Replies()) != 0 {
		t.Error("a reply that nobody opened")
	}
	if o := w.Do(api.Item{Kind: api.Deliver}, "", ""); o.Kind != api.Deliver || o.Why != api.OK || o.N != 0 || !sameReply(o.Reply, want) {
		t.Errorf("Deliver of an answer: %+v", o)
	}
	if l := w.Replies(); len(l) != 1 || !sameReply(l[0], want) || len(w.Office()) != 0 {
		t.Errorf("Replies: %+v", l)
	}
	// What is not changed takes no step, and is no deed.
	sends(t, w, send(0, 0, api.Request{Op: api.Recover, ID: id}), "1234", "", api.OK)
	does(t, w, api.Item{Kind: api.Deliver}, api.OK, 0)
	if len(w.Deeds()) != 1 {
		t.Error("a deed of what is not changed")
	}
	if o := w.Do(api.Item{Kind: api.Deliver}, "", ""); string(o.Reply.Secret) != "secret" || o.Reply.Client != 0 {
		t.Errorf("Deliver of an answer: %+v", o)
	}
	sends(t, w, send(1, 0, escrow(id)), "1234", "me", api.OK)
	does(t, w, api.Item{Kind: api.Settle}, api.OK, 2)
	if l := w.Replies(); l[len(l)-1].Why != api.ErrShard {
		t.Errorf("Replies: %+v", l)
	}
	for range 6 {
		told(t, w, send(0, 0, api.Request{Op: api.Remove, ID: id}), "", "me")
		told(t, w, send(0, 0, escrow(id)), "1234", "me")
	}
	sends(t, w, send(0, 0, api.Request{Op: api.Remove, ID: id}), "", "me", api.OK)
	w.Member(0).Fuse(-1, 0)
	before := w.Member(0).Register()
	o := w.Do(api.Item{Kind: api.Deliver}, "", "")
	if after := w.Member(0).Register(); o.N != map[bool]int{true: 6, false: 3}[after.Base != before.Base] || o.Why != api.OK {
		t.Errorf("Deliver: %+v", o)
	}
}

// The eighth record of a member is folded: six steps.
func TestDeliverFolds(t *testing.T) {
	w := world(t, 1, 1)
	for i, id := range append(ids(4, 0), ids(4, 1)...) {
		sends(t, w, send(0, 0, escrow(id)), "1234", "me", api.OK)
		does(t, w, api.Item{Kind: api.Deliver}, api.OK, map[bool]int{true: 6, false: 3}[i == 7])
		does(t, w, api.Item{Kind: api.Lose}, api.OK, 0)
	}
	if len(w.Deeds()) != 8 || len(w.Replies()) != 0 {
		t.Error("deeds")
	}
}

// Letters of any kind, for anybody.
func TestOddLetters(t *testing.T) {
	w := world(t, 2, 1)
	comes := func(kind, to int, b []byte, want api.Errno) {
		t.Helper()
		does(t, w, api.Item{Kind: api.Inject, N: kind, Member: to, To: 9, Bytes: b}, api.OK, 0)
		l := w.Office()
		if len(l) != 1 || !sameLetter(l[0], api.Letter{Kind: kind, From: 9, To: to, Bytes: b}) {
			t.Fatalf("Inject: %+v", l)
		}
		does(t, w, api.Item{Kind: api.Deliver}, want, 0)
		if len(w.Office()) != 0 {
			t.Fatalf("a letter of kind %d to %d is not taken", kind, to)
		}
	}
	for _, kind := range []int{0, 5, -1, math.MaxInt} {
		comes(kind, 0, nil, api.ErrForm)
		comes(kind, 99, nil, api.ErrForm)
	}
	for _, kind := range []int{api.Ask, api.Answer, api.Parcel, api.Ack} {
		for _, to := range []int{-1, 2, 99, math.MinInt} {
			comes(kind, to, nil, api.ErrArg)
		}
		comes(kind, 0, nil, api.ErrForm)
		comes(kind, 0, make([]byte, 3), api.ErrForm)
	}
	comes(api.Answer, 1, nil, api.ErrArg)
	comes(api.Answer, 0, make([]byte, 20), api.ErrNone)
	for _, kind := range []int{api.Ask, api.Parcel, api.Ack} {
		comes(kind, 1, make([]byte, 20), api.ErrSeal)
		comes(kind, 1, make([]byte, api.MaxSlot), api.ErrSeal)
	}
	sealed := func(to byte, text ...byte) []byte {
		b, _ := envelope.Close(w.Key(), 5, to, text)
		return b
	}
	comes(api.Ask, 1, sealed(1, 1, 2, 3), api.ErrForm)
	comes(api.Parcel, 1, sealed(65, 1, 2, 3), api.ErrForm)
	comes(api.Ack, 1, sealed(97, 1, 2, 3), api.ErrForm)
	does(t, w, api.Item{Kind: api.Inject, Bytes: make([]byte, api.MaxSlot+1)}, api.ErrFull, 0)
	// parcels from oneself, and from who is not there
	parcel := func(from int) []byte {
		b, _ := handoff.Close(w.Key(), 1, handoff.Parcel{From: from, Shard: 0, Epoch: 9})
		return b
	}
	comes(api.Parcel, 1, parcel(1), api.ErrOwner)
	comes(api.Parcel, 1, parcel(2), api.ErrOwner)
	comes(api.Parcel, 1, parcel(7), api.ErrOwner)
	own, _ := handoff.Close(w.Key(), 1, handoff.Parcel{From: 0, Shard: 1, Epoch: 9})
	comes(api.Parcel, 1, own, api.ErrShard)
	token, _ := handoff.Thanks(w.Key(), 1, handoff.Token{From: 0, Shard: 1, Epoch: 1})
	comes(api.Ack, 1, token, api.ErrShard)
	for _, kind := range []int{0, 15, -1, 99, math.MinInt, math.MaxInt} {
		does(t, w, api.Item{Kind: kind, Member: 99, Client: 99, To: 99}, api.ErrForm, 0)
	}
	w.Member(1).Stop()
	for _, kind := range []int{api.Ask, api.Parcel, api.Ack} {
		comes(kind, 1, nil, api.ErrDown)
		comes(kind, 1, parcel(1), api.ErrDown)
	}
	w.Member(1).Start()
	told(t, w, send(1, 0, escrow(ids(1, 1)[0])), "1234", "me")
	w.Member(1).Stop()
	w.Member(1).Swap(nil)
	does(t, w, api.Item{Kind: api.Start, Member: 1}, api.ErrRefused, 0)
	for _, kind := range []int{api.Ask, api.Parcel, api.Ack} {
		comes(kind, 1, nil, api.ErrRefused)
		comes(kind, 1, parcel(1), api.ErrRefused)
	}
}

// An answer that came is of no use to another client, nor behind its request's.
func TestAnswers(t *testing.T) {
	w := world(t, 1, 2)
	id := ids(1, 3)[0]
	sends(t, w, send(0, 0, escrow(id)), "1234", "me", api.OK)
	does(t, w, api.Item{Kind: api.Double}, api.OK, 0)
	does(t, w, api.Item{Kind: api.Double, N: 2}, api.ErrNone, 0)
	does(t, w, api.Item{Kind: api.Deliver}, api.OK, 3)
	does(t, w, api.Item{Kind: api.Deliver}, api.OK, 0)
	answers := w.Office()
	does(t, w, api.Item{Kind: api.Settle}, api.OK, 2)
	if l := w.Replies(); len(l) != 2 || l[0].Why != api.OK || l[1].Why != api.ErrThere || l[0].Num != l[1].Num {
		t.Errorf("Replies: %+v", l)
	}
	does(t, w, api.Item{Kind: api.Inject, N: api.Answer, Member: 1, Bytes: answers[0].Bytes}, api.OK, 0)
	does(t, w, api.Item{Kind: api.Deliver}, api.ErrNone, 0)
	sends(t, w, send(0, 1, escrow(id)), "1234", "me", api.OK)
	does(t, w, api.Item{Kind: api.Inject, N: api.Answer, Member: 1, Bytes: answers[0].Bytes}, api.OK, 0)
	does(t, w, api.Item{Kind: api.Deliver, N: 1}, api.ErrSeal, 0)
	does(t, w, api.Item{Kind: api.Lose, N: 1}, api.ErrNone, 0)
	does(t, w, api.Item{Kind: api.Lose}, api.OK, 0)
	if len(w.Office()) != 0 || len(w.Replies()) != 2 {
		t.Error("a reply that is another client's")
	}
}

func TestNoSuchMember(t *testing.T) {
	w := world(t, 2, 1)
	for _, kind := range []int{api.Fuse, api.Start, api.Stop, api.Copy, api.Swap, api.Spoil, api.Move, api.Again} {
		for _, member := range []int{-1, 2, 99, math.MinInt, math.MaxInt} {
			does(t, w, api.Item{Kind: kind, Member: member}, api.ErrArg, 0)
			if kind == api.Move {
				does(t, w, api.Item{Kind: kind, To: member, Shard: 99}, api.ErrArg, 0)
			}
		}
	}
}

func TestFuseStartStop(t *testing.T) {
	w := world(t, 2, 1)
	id := ids(1, 0)[0]
	does(t, w, api.Item{Kind: api.Start}, api.ErrThere, 0)
	does(t, w, api.Item{Kind: api.Fuse, N: 2, Torn: 4}, api.OK, 0)
	sends(t, w, send(0, 0, escrow(id)), "1234", "me", api.OK)
	does(t, w, api.Item{Kind: api.Deliver}, api.ErrDown, 0)
	if w.Member(0).Is() != api.Down || w.Member(0).Steps() != 2 || len(w.Deeds()) != 0 || len(w.Office()) != 0 || w.Owners()[0] != -1 || w.Owners()[1] != 1 {
		t.Error("behind the crash")
	}
	does(t, w, api.Item{Kind: api.Stop}, api.ErrDown, 0)
	does(t, w, api.Item{Kind: api.Start}, api.OK, 0)
	if r := told(t, w, send(0, 0, escrow(id)), "1234", "me"); r.Why != api.OK {
		t.Errorf("Escrow: %+v", r)
	}
	does(t, w, api.Item{Kind: api.Stop}, api.OK, 0)
	does(t, w, api.Item{Kind: api.Stop}, api.ErrDown, 0)
	does(t, w, api.Item{Kind: api.Start}, api.OK, 0)
	// A crash behind the register: a deed, but no answer.
	for i := range 6 {
		q := escrow(ids(4, i%2*2)[i%4])
		q.Op = []int{api.Recover, api.Escrow}[i%2]
		told(t, w, send(0, 0, q), "1234", "me")
	}
	for w.Member(0).Register().Count%8 != 7 {
		told(t, w, send(0, 0, api.Request{Op: api.Replace, ID: id, Limit: 3}), "1234", "me")
	}
	deeds := len(w.Deeds())
	does(t, w, api.Item{Kind: api.Fuse, N: 3}, api.OK, 0)
	sends(t, w, send(0, 0, api.Request{Op: api.Replace, ID: id, Limit: 3}), "1234", "me", api.OK)
	does(t, w, api.Item{Kind: api.Deliver}, api.ErrDown, 0)
	if len(w.Deeds()) != deeds+1 || len(w.Office()) != 0 {
		t.Errorf("%d deeds, %d letters", len(w.Deeds())-deeds, len(w.Office()))
	}
	does(t, w, api.Item{Kind: api.Fuse, N: 0}, api.OK, 0)
	does(t, w, api.Item{Kind: api.Start}, api.ErrDown, 0)
	does(t, w, api.Item{Kind: api.Start}, api.OK, 0)
}

func TestCopySwapSpoil(t *testing.T) {
	w := world(t, 2, 1)
	id := ids(2, 0)
	does(t, w, api.Item{Kind: api.Swap}, api.ErrNone, 0)
	does(t, w, api.Item{Kind: api.Spoil, N: 2}, api.ErrThere, 0)
	does(t, w, api.Item{Kind: api.Copy}, api.OK, 0)
	does(t, w, api.Item{Kind: api.Swap, Member: 1}, api.ErrNone, 0)
	does(t, w, api.Item{Kind: api.Swap}, api.ErrThere, 0)
	told(t, w, send(0, 0, escrow(id[0])), "1234", "me")
	does(t, w, api.Item{Kind: api.Copy}, api.OK, 0)
	aside := w.Member(0).Disk()
	does(t, w, api.Item{Kind: api.Stop}, api.OK, 0)
	for _, x := range [][2]int{{-1, 0}, {10, 0}, {2, -1}, {2, 9999}, {3, 0}, {0, 0}} {
		does(t, w, api.Item{Kind: api.Spoil, N: x[0], Torn: x[1]}, api.ErrNone, 0)
	}
	does(t, w, api.Item{Kind: api.Spoil, N: 2, Torn: 5}, api.OK, 0)
	if slots.Same(aside, w.Member(0).Disk()) {
		t.Error("Spoil did nothing")
	}
	for range 2 { // kept aside still
		does(t, w, api.Item{Kind: api.Swap}, api.OK, 0)
		if !slots.Same(aside, w.Member(0).Disk()) {
			t.Error("Swap")
		}
		does(t, w, api.Item{Kind: api.Start}, api.OK, 0)
		does(t, w, api.Item{Kind: api.Swap}, api.ErrThere, 0)
		does(t, w, api.Item{Kind: api.Stop}, api.OK, 0)
		does(t, w, api.Item{Kind: api.Spoil, N: 2, Torn: 5}, api.OK, 0)
	}
	does(t, w, api.Item{Kind: api.Start}, api.ErrRefused, 0)
	does(t, w, api.Item{Kind: api.Start}, api.ErrRefused, 0)
	does(t, w, api.Item{Kind: api.Stop}, api.ErrDown, 0)
	does(t, w, api.Item{Kind: api.Swap}, api.OK, 0)
	does(t, w, api.Item{Kind: api.Copy}, api.OK, 0)
	does(t, w, api.Item{Kind: api.Move, Shard: 0, To: 1}, api.ErrRefused, 0)
	does(t, w, api.Item{Kind: api.Again}, api.ErrRefused, 0)
	if w.Owners()[0] != -1 {
		t.Error("Owners of one that refuses")
	}
	// An older disk is refused.
	does(t, w, api.Item{Kind: api.Copy, Member: 1}, api.OK, 0)
	told(t, w, send(1, 0, escrow(ids(1, 1)[0])), "1234", "me")
	does(t, w, api.Item{Kind: api.Stop, Member: 1}, api.OK, 0)
	does(t, w, api.Item{Kind: api.Swap, Member: 1}, api.OK, 0)
	does(t, w, api.Item{Kind: api.Start, Member: 1}, api.ErrRefused, 0)
}

func role(t *testing.T, w *cohort.World, member, n, role int, epoch uint64, to, vaults int) {
	t.Helper()
	s := w.Member(member).View()
	if a, b, c := s.Role(n); a != role || b != epoch || c != to || len(s.Vaults(n)) != vaults {
		t.Fatalf("shard %d of member %d: %d, %d, %d, %d vaults; must be %d, %d, %d, %d", n, member, a, b, c, len(s.Vaults(n)), role, epoch, to, vaults)
	}
}

func TestMove(t *testing.T) {
	w := world(t, 3, 1)
	id := ids(2, 3)
	for _, x := range id {
		told(t, w, send(0, 0, escrow(x)), "1234", "me")
	}
	move := func(member, n, to int) api.Item {
		return api.Item{Kind: api.Move, Member: member, Shard: n, To: to}
	}
	does(t, w, move(0, 3, 0), api.ErrArg, 0)
	does(t, w, move(0, -1, 1), api.ErrShard, 0)
	does(t, w, move(0, 16, 1), api.ErrShard, 0)
	does(t, w, move(0, 4, 1), api.ErrShard, 0)
	does(t, w, move(0, 3, 1), api.OK, 0)
	does(t, w, move(0, 3, 1), api.ErrBusy, 0)
	role(t, w, 0, 3, state.Lent, 2, 1, 2)
	p, _, _ := handoff.Of(w.Member(0).View(), 3)
	b, _ := handoff.Close(w.Key(), 1, p)
	if !slices.EqualFunc(w.Office(), []api.Letter{{Kind: api.Parcel, From: 0, To: 1, Bytes: b}}, sameLetter) {
		t.Fatalf("Office: %+v", w.Office())
	}
	if w.Owners()[3] != -1 {
		t.Error("Owners of one that is lent")
	}
	does(t, w, api.Item{Kind: api.Double}, api.OK, 0)
	does(t, w, api.Item{Kind: api.Deliver}, api.OK, 0)
	role(t, w, 1, 3, state.Own, 2, 0, 2)
	ack, _ := handoff.Thanks(w.Key(), 0, handoff.Token{From: 1, Shard: 3, Epoch: 2})
	if l := w.Office(); len(l) != 2 || !sameLetter(l[1], api.Letter{Kind: api.Ack, From: 1, To: 0, Bytes: ack}) {
		t.Fatalf("Office: %+v", l)
	}
	// The same parcel again: thanks, and nothing else.
	steps := w.Member(1).Steps()
	does(t, w, api.Item{Kind: api.Deliver}, api.OK, 0)
	if w.Member(1).Steps() != steps || len(w.Office()) != 2 || !sameLetter(w.Office()[0], w.Office()[1]) {
		t.Error("a parcel that came already")
	}
	does(t, w, api.Item{Kind: api.Deliver}, api.OK, 0)
	role(t, w, 0, 3, state.Away, 2, 0, 0)
	does(t, w, api.Item{Kind: api.Deliver}, api.ErrShard, 0)
	if w.Owners()[3] != 1 || len(w.Deeds()) != 2 {
		t.Error("Owners behind a move")
	}
	if r := told(t, w, send(1, 0, api.Request{Op: api.Recover, ID: id[0]}), "1234", ""); string(r.Secret) != "secret" {
		t.Errorf("Recover behind a move: %+v", r)
	}
	// And on to another one, and back to the first.
	does(t, w, move(1, 3, 2), api.OK, 0)
	does(t, w, api.Item{Kind: api.Settle}, api.OK, 2)
	does(t, w, move(2, 3, 0), api.OK, 0)
	does(t, w, api.Item{Kind: api.Settle}, api.OK, 2)
	role(t, w, 0, 3, state.Own, 4, 0, 2)
	// An old parcel of epoch 2 comes to member 1, whose epoch is 3.
	does(t, w, api.Item{Kind: api.Inject, N: api.Parcel, Member: 1, Bytes: b}, api.OK, 0)
	does(t, w, api.Item{Kind: api.Deliver}, api.OK, 0)
	role(t, w, 1, 3, state.Away, 3, 0, 0)
	does(t, w, api.Item{Kind: api.Deliver}, api.ErrShard, 0)
	role(t, w, 0, 3, state.Own, 4, 0, 2)
	does(t, w, api.Item{Kind: api.Stop}, api.OK, 0)
	does(t, w, move(0, 3, 1), api.ErrDown, 0)
	does(t, w, move(0, 99, 0), api.ErrDown, 0)
	does(t, w, api.Item{Kind: api.Again}, api.ErrDown, 0)
}

// P24.1, P19.1, P19.2: a parcel and its thanks are taken by their texts, whatever number they were closed under.
func TestLettersUnderAnyNumber(t *testing.T) {
	w := world(t, 3, 1)
	comes := func(kind, to int, ad byte, text []byte) {
		t.Helper()
		b, _ := envelope.Close(w.Key(), 12345, ad, text)
		does(t, w, api.Item{Kind: api.Inject, N: kind, Member: to, Bytes: b}, api.OK, 0)
		does(t, w, api.Item{Kind: api.Deliver, N: len(w.Office()) - 1}, api.OK, 0)
	}
	does(t, w, api.Item{Kind: api.Move, Shard: 3, To: 1}, api.OK, 0)
	does(t, w, api.Item{Kind: api.Lose}, api.OK, 0)
	record, _ := codec.Record(api.Record{Kind: api.In, Shard: 3, Epoch: 2})
	comes(api.Parcel, 1, 64+1, append([]byte{0}, record...))
	role(t, w, 1, 3, state.Own, 2, 0, 0)
	role(t, w, 0, 3, state.Lent, 2, 1, 0)
	thanks, _ := handoff.Thanks(w.Key(), 0, handoff.Token{From: 1, Shard: 3, Epoch: 2})
	if l := w.Office(); len(l) != 1 || !sameLetter(l[0], api.Letter{Kind: api.Ack, From: 1, To: 0, Bytes: thanks}) {
		t.Fatalf("thanks: %+v", l)
	}
	does(t, w, api.Item{Kind: api.Lose}, api.OK, 0)
	comes(api.Ack, 0, 96+0, append([]byte{1, 3}, blend.Number(2)...))
	role(t, w, 0, 3, state.Away, 2, 0, 0)
}

func TestAgain(t *testing.T) {
	w := world(t, 2, 1)
	does(t, w, api.Item{Kind: api.Again}, api.OK, 0)
	for _, n := range []int{4, 0, 2} {
		does(t, w, api.Item{Kind: api.Move, Shard: n, To: 1}, api.OK, 0)
		does(t, w, api.Item{Kind: api.Lose}, api.OK, 0)
	}
	does(t, w, api.Item{Kind: api.Again}, api.OK, 3)
	l := w.Office()
	for i, n := range []int{0, 2, 4} {
		p, e := handoff.Open(w.Key(), 1, l[i].Bytes)
		if e != api.OK || p.Shard != n || l[i].Kind != api.Parcel || l[i].From != 0 || l[i].To != 1 {
			t.Fatalf("parcel %d: %+v, %d", i, p, e)
		}
	}
	for len(w.Office()) < api.MaxNet-2 {
		does(t, w, api.Item{Kind: api.Inject}, api.OK, 0)
	}
	does(t, w, api.Item{Kind: api.Again}, api.OK, 2)
	does(t, w, api.Item{Kind: api.Again}, api.OK, 0)
	does(t, w, api.Item{Kind: api.Move, Shard: 6, To: 1}, api.OK, 0) // its parcel is lost
	role(t, w, 0, 6, state.Lent, 2, 1, 0)
	if len(w.Office()) != api.MaxNet {
		t.Error("more letters than there may be")
	}
	does(t, w, api.Item{Kind: api.Settle}, api.OK, 64+5)
	does(t, w, api.Item{Kind: api.Again}, api.OK, 1)
	does(t, w, api.Item{Kind: api.Settle}, api.OK, 2)
	if !slices.Equal(w.Owners(), []int{1, 1, 1, 1, 1, 1, 1, 1, 0, 1, 0, 1, 0, 1, 0, 1}) {
		t.Errorf("Owners: %v", w.Owners())
	}
}

// A parcel at a member that crashes: no thanks ahead of its record.
func TestParcelCrashes(t *testing.T) {
	for n := range 3 {
		w := world(t, 2, 1)
		does(t, w, api.Item{Kind: api.Move, Shard: 0, To: 1}, api.OK, 0)
		does(t, w, api.Item{Kind: api.Fuse, Member: 1, N: n}, api.OK, 0)
		does(t, w, api.Item{Kind: api.Deliver}, api.ErrDown, 0)
		if len(w.Office()) != 0 {
			t.Error("thanks of one that fell")
		}
		does(t, w, api.Item{Kind: api.Start, Member: 1}, api.OK, 0)
		role(t, w, 1, 0, state.Away, 1, 0, 0)
		does(t, w, api.Item{Kind: api.Again}, api.OK, 1)
		does(t, w, api.Item{Kind: api.Settle}, api.OK, 2)
		role(t, w, 1, 0, state.Own, 2, 0, 0)
		role(t, w, 0, 0, state.Away, 2, 0, 0)
	}
}

func TestMemory(t *testing.T) {
	w := world(t, 1, 1)
	id := ids(1, 0)[0]
	q := escrow(id)
	room := []byte("secret and more")
	q.Secret = room[:6]
	told(t, w, send(0, 0, q), "1234", "me")
	room[0] = 'x'
	r := told(t, w, send(0, 0, api.Request{Op: api.Recover, ID: id}), "1234", "")
	r.Secret[0] = 'y'
	w.Deeds()[0].Request.Secret[0] = 'z'
	w.Deeds()[0] = desk.Deed{}
	sends(t, w, send(0, 0, api.Request{Op: api.Recover, ID: id}), "1234", "", api.OK)
	w.Do(api.Item{Kind: api.Deliver}, "", "")
	w.Office()[0].Bytes[0]++
	o := w.Do(api.Item{Kind: api.Deliver}, "", "")
	o.Reply.Secret[0] = 'w'
	if l := w.Replies(); string(l[1].Secret) != "secret" || string(l[2].Secret) != "secret" || string(w.Deeds()[0].Request.Secret) != "secret" {
		t.Error("memory is shared")
	}
	w.Owners()[0] = 9
	if w.Owners()[0] != 0 {
		t.Error("Owners shares memory")
	}
	b := []byte{1, 2, 3}
	w.Do(api.Item{Kind: api.Inject, Bytes: b}, "", "")
	b[0] = 9
	if w.Office()[0].Bytes[0] != 1 {
		t.Error("Inject keeps what was handed in")
	}
}

func TestRun(t *testing.T) {
	w, v := world(t, 2, 1), world(t, 2, 1)
	id := ids(1, 0)[0]
	l := []cohort.Step{{Item: send(0, 0, escrow(id)), Pin: "1234", Owner: "me"}, {Item: api.Item{Kind: api.Settle}}, {Item: api.Item{Kind: 99}}, {Item: api.Item{Kind: api.Stop, Member: 1}}}
	out := w.Run(l...)
	if len(out) != len(l) {
		t.Fatalf("Run: %d", len(out))
	}
	for i, s := range l {
		o := v.Do(s.Item, s.Pin, s.Owner)
		if o.Kind != out[i].Kind || o.Why != out[i].Why || o.N != out[i].N || !sameReply(o.Reply, out[i].Reply) {
			t.Errorf("step %d: %+v; must be %+v", i, out[i], o)
		}
	}
	if out[1].N != 2 || len(w.Run()) != 0 || !codec.Same(vaultOf(w, id), vaultOf(v, id)) {
		t.Error("Run")
	}
}

func vaultOf(w *cohort.World, id api.ID) api.Vault {
	v, _ := w.Member(0).View().Get(id)
	return v
}
