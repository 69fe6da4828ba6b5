package judge_test

import (
	"bytes"
	"slices"
	"testing"

	"claviger/api"
	"claviger/codec"
	"claviger/desk"
	"claviger/ideal"
	"claviger/judge"
	"claviger/shard"
)

var right, wrong, mine = api.Digest{1}, api.Digest{2}, api.Digest{3}

// ids tells the first n IDs of a shard.
func ids(n, of int) (out []api.ID) {
	for i := 0; len(out) < n; i++ {
		if id := (api.ID{byte(i >> 8), byte(i), 7, 7}); shard.Of(id) == of {
			out = append(out, id)
		}
	}
	return out
}

func escrow(id api.ID) api.Request {
	return api.Request{Op: api.Escrow, ID: id, Pin: right, Secret: []byte("secret"), Limit: 2, Owner: mine, Client: 2, Num: 9}
}

func recover1(id api.ID, pin api.Digest) api.Request {
	return api.Request{Op: api.Recover, ID: id, Pin: pin, Client: 1, Num: 10}
}

// deeds answers requests as an ideal map does.
func deeds(l ...api.Request) (out []desk.Deed) {
	m := ideal.New()
	for i, q := range l {
		out = append(out, desk.Deed{Member: i % 3, Request: q, Reply: m.Do(q)})
	}
	return out
}

func history() []desk.Deed {
	id := ids(5, 4)
	l := []api.Request{escrow(id[0]), recover1(id[0], right), recover1(id[0], wrong), recover1(id[0], wrong), recover1(id[0], right), escrow(id[0]), recover1(id[0], right)}
	for _, x := range id[1:] {
		l = append(l, escrow(x))
	}
	replace := escrow(id[2])
	replace.Op = api.Replace
	return deeds(append(l, replace, api.Request{Op: api.Remove, ID: id[3], Owner: wrong}, api.Request{Op: api.Remove, ID: id[3], Owner: mine}, api.Request{Op: 9})...)
}

// P25.1.
func TestCheck(t *testing.T) {
	if judge.Check() != -1 {
		t.Error("Check of none")
	}
	l := history()
	if n := judge.Check(l...); n != -1 {
		t.Errorf("Check of a right history: %d", n)
	}
	for i := range l {
		for j, change := range []func(r *api.Reply){
			func(r *api.Reply) { r.Why++ }, func(r *api.Reply) { r.ID[3]++ }, func(r *api.Reply) { r.Gen++ }, func(r *api.Reply) { r.Left++ },
			func(r *api.Reply) { r.Client++ }, func(r *api.Reply) { r.Num++ }, func(r *api.Reply) { r.Secret = append(bytes.Clone(r.Secret), 0) },
		} {
			m := slices.Clone(l)
			change(&m[i].Reply)
			if n := judge.Check(m...); n != i {
				t.Errorf("Check with change %d of deed %d: %d", j, i, n)
			}
			if last := len(m) - 1; i < last {
				m[last].Reply.Num++
				if n := judge.Check(m...); n != i {
					t.Errorf("Check with two changes: %d; the first is %d", n, i)
				}
			}
		}
	}
	empty := slices.Clone(l)
	for i := range empty {
		empty[i].Member = 99
		if len(empty[i].Reply.Secret) == 0 {
			empty[i].Reply.Secret = []byte{}
		}
	}
	if n := judge.Check(empty...); n != -1 {
		t.Errorf("Check with empty lists: %d", n)
	}
	unordered := slices.Clone(l)
	unordered[0], unordered[2] = unordered[2], unordered[0]
	if n := judge.Check(unordered...); n != 0 {
		t.Errorf("Check of another order: %d", n)
	}
	// a Recover that is told OK of none
	told := desk.Deed{Request: recover1(ids(1, 4)[0], right), Reply: api.Reply{ID: ids(1, 4)[0], Gen: 1, Secret: []byte("x"), Client: 1, Num: 10}}
	if judge.Check(told) != 0 || judge.Check(desk.Deed{}) != 0 || judge.Check(desk.Deed{Reply: api.Reply{Why: api.ErrForm}}) != -1 {
		t.Error("Check of one")
	}
	// what is no request is told ErrForm, and nothing of it
	bad := api.Request{Op: api.Recover, ID: ids(1, 4)[0], Client: -1, Num: 7}
	for want, r := range map[int]api.Reply{-1: {Why: api.ErrForm}, 0: {Why: api.ErrForm, ID: bad.ID, Client: -1, Num: 7}} {
		if n := judge.Check(desk.Deed{Request: bad, Reply: r}); n != want {
			t.Errorf("Check of %+v: %d", r, n)
		}
	}
}

func TestFinal(t *testing.T) {
	if len(judge.Final()) != 0 {
		t.Error("Final of none")
	}
	l := history()
	m := ideal.New()
	for i, d := range l {
		m.Do(d.Request)
		part := slices.Clone(l[:i+1])
		if got := judge.Final(part...); !slices.EqualFunc(got, m.All(), codec.Same) {
			t.Errorf("Final of %d: %+v", i+1, got)
		}
		part[0].Reply = api.Reply{Why: 99} // what was told is not asked
		if got := judge.Final(part...); !slices.EqualFunc(got, m.All(), codec.Same) {
			t.Errorf("Final of %d: %+v", i+1, got)
		}
	}
	judge.Final(l...)[0].Secret[0]++
	if string(l[0].Request.Secret) != "secret" {
		t.Error("Final shares memory")
	}
}

func TestWrongsAndTold(t *testing.T) {
	a, b := api.ID{1}, api.ID{2}
	l := []api.Reply{
		{Why: api.ErrPin, ID: a, Gen: 1}, {Why: api.ErrPin, ID: a, Gen: 1, Left: 5, Num: 3}, {Why: api.ErrPin, ID: a, Gen: 2}, {Why: api.ErrPin, ID: b, Gen: 1},
		{Why: api.ErrGone, ID: a, Gen: 1}, {ID: a, Gen: 1, Secret: []byte{0}}, {ID: a, Gen: 1}, {ID: a, Gen: 1, Secret: []byte{}}, {ID: b, Gen: 1, Secret: []byte("xy")},
		{Why: api.ErrThere, ID: a, Gen: 1, Secret: []byte("xy")}, {ID: a, Gen: 2, Secret: []byte("xy")}, {Why: api.ErrPin, ID: a, Gen: 1, Secret: []byte("xy")},
	}
	for _, c := range []struct {
		id          api.ID
		gen         uint64
		wrong, told int
	}{{a, 1, 3, 1}, {a, 2, 1, 1}, {b, 1, 1, 1}, {b, 2, 0, 0}, {api.ID{}, 0, 0, 0}} {
		if n := judge.Wrongs(c.id, c.gen, l...); n != c.wrong {
			t.Errorf("Wrongs(%v, %d): %d", c.id, c.gen, n)
		}
		if n := judge.Told(c.id, c.gen, l...); n != c.told {
			t.Errorf("Told(%v, %d): %d", c.id, c.gen, n)
		}
	}
	if judge.Wrongs(a, 1) != 0 || judge.Told(a, 1) != 0 {
		t.Error("of none")
	}
}

// P25.2.
func TestAfter(t *testing.T) {
	a, b := api.ID{1}, api.ID{2}
	last := api.Reply{Why: api.ErrPin, ID: a, Gen: 3}
	told := api.Reply{ID: a, Gen: 3, Left: 1, Secret: []byte{0}}
	with := func(r api.Reply, change func(r *api.Reply)) api.Reply {
		change(&r)
		return r
	}
	for i, c := range []struct {
		l    []api.Reply
		want bool
	}{
		{nil, false},
		{[]api.Reply{last}, false},
		{[]api.Reply{told}, false},
		{[]api.Reply{last, told}, true},
		{[]api.Reply{told, last}, false},
		{[]api.Reply{told, last, told}, true},
		{[]api.Reply{last, {}, {Why: api.ErrGone, ID: a, Gen: 3}, told}, true},
		{[]api.Reply{with(last, func(r *api.Reply) { r.Left = 1 }), told}, false},
		{[]api.Reply{with(last, func(r *api.Reply) { r.Why = api.ErrGone }), told}, false},
		{[]api.Reply{with(last, func(r *api.Reply) { r.Why = api.OK }), told}, false},
		{[]api.Reply{with(last, func(r *api.Reply) { r.Gen = 2 }), told}, false},
		{[]api.Reply{with(last, func(r *api.Reply) { r.Gen = 4 }), told}, false},
		{[]api.Reply{with(last, func(r *api.Reply) { r.ID = b }), told}, false},
		{[]api.Reply{last, with(told, func(r *api.Reply) { r.Secret = []byte{} })}, false},
		{[]api.Reply{last, with(told, func(r *api.Reply) { r.Why = api.ErrThere })}, false},
		{[]api.Reply{with(last, func(r *api.Reply) { r.ID = b }), told, last, with(told, func(r *api.Reply) { r.ID = b })}, true},
		{[]api.Reply{with(last, func(r *api.Reply) { r.Client, r.Num = 3, 9 }), told}, true},
	} {
		if judge.After(c.l...) != c.want {
			t.Errorf("After, case %d", i)
		}
	}
	many := make([]api.Reply, 0, 200001)
	for i := range 100000 {
		many = append(many, with(last, func(r *api.Reply) { r.Gen = uint64(i) }))
	}
	for i := range 100000 {
		many = append(many, with(told, func(r *api.Reply) { r.Gen = uint64(i + 100000) }))
	}
	if judge.After(many...) || !judge.After(append(many, told)...) {
		t.Error("After of many")
	}
}
