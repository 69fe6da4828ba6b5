package endorse_test

import (
	"math"
	"slices"
	"testing"

	"claviger/api"
	"claviger/blend"
	"claviger/endorse"
	"claviger/roster"
)

var cohort = api.Digest{7, 7, 7}

func list(version uint64, members ...int) roster.List {
	return roster.List{Version: version, Members: members}
}

func vote(member int, l roster.List) endorse.Vote {
	m, _ := endorse.Mark(endorse.Key(cohort, member), l)
	return endorse.Vote{Member: member, Mark: m}
}

// P15.1.
func TestKeyAndMark(t *testing.T) {
	for _, c := range []struct {
		member int
		low    byte
	}{{0, 0}, {1, 1}, {7, 7}, {255, 255}, {256, 0}, {257, 1}, {-1, 255}, {math.MaxInt, 255}, {math.MinInt, 0}} {
		if endorse.Key(cohort, c.member) != blend.Keyed(cohort, []byte{c.low}) {
			t.Errorf("Key(cohort, %d)", c.member)
		}
	}
	k := endorse.Key(cohort, 3)
	for _, l := range []roster.List{list(1, 0), list(0x0102, 1, 3, 7), list(api.MaxCount, 0, 1, 2, 3, 4, 5, 6, 7)} {
		b := blend.Number(l.Version)
		for _, m := range l.Members {
			b = append(b, byte(m))
		}
		if m, ok := endorse.Mark(k, l); !ok || m != blend.Keyed(k, b) {
			t.Errorf("Mark(k, %v)", l)
		}
	}
	for _, l := range []roster.List{{}, list(0, 1), list(1), list(1, 2, 1), list(1, 8), list(api.MaxCount+1, 1)} {
		if m, ok := endorse.Mark(k, l); ok || m != (api.Digest{}) {
			t.Errorf("Mark(k, %v): %v, %v", l, m, ok)
		}
	}
}

// P15.2.
func TestCheck(t *testing.T) {
	l := list(9, 1, 4)
	checks := func(by, l roster.List, votes []endorse.Vote, n int, ok bool) {
		t.Helper()
		if got, is := endorse.Check(cohort, by, l, votes); got != n || is != ok {
			t.Errorf("Check(%v, %v, %d votes): %d, %v; must be %d, %v", by, l, len(votes), got, is, n, ok)
		}
	}
	for size := 1; size <= 8; size++ {
		by := list(2, []int{0, 1, 2, 3, 4, 5, 6, 7}[:size]...)
		var votes []endorse.Vote
		for n := 0; n <= size; n++ {
			checks(by, l, votes, n, n >= size/2+1)
			checks(by, l, append(slices.Clone(votes), votes...), n, n >= size/2+1)
			reversed := slices.Clone(votes)
			slices.Reverse(reversed)
			checks(by, l, reversed, n, n >= size/2+1)
			if n < size {
				votes = append(votes, vote(n, l))
			}
		}
	}
	three := list(1, 1, 3, 5)
	good := []endorse.Vote{vote(1, l), vote(5, l)}
	checks(three, l, good, 2, true)
	checks(three, l, good[:1], 1, false)
	checks(three, l, []endorse.Vote{vote(1, l), vote(1, l)}, 1, false)
	checks(three, l, []endorse.Vote{vote(1, l), vote(2, l), vote(0, l), vote(4, l)}, 1, false)
	checks(three, l, []endorse.Vote{vote(1, l), {Member: 3, Mark: vote(5, l).Mark}}, 1, false)
	checks(three, l, []endorse.Vote{vote(1, l), {Member: 3 + 256, Mark: vote(3, l).Mark}, {Member: 3 - 256, Mark: vote(3, l).Mark}}, 1, false)
	checks(three, l, []endorse.Vote{{Member: 3}, vote(1, l), vote(3, list(10, 1, 4)), vote(3, list(9, 1, 5))}, 1, false)
	checks(three, l, []endorse.Vote{{Member: 3}, vote(1, l), vote(3, l)}, 2, true) // a wrong one ahead of the right one
	checks(three, list(9, 0, 1, 4), good, 0, false)
	if n, ok := endorse.Check(api.Digest{}, three, l, good); n != 0 || ok {
		t.Error("Check of another cohort")
	}
	for _, w := range []roster.List{{}, list(0, 1, 3, 5), list(1), list(1, 3, 1)} {
		checks(w, l, good, 0, false)
		checks(three, w, good, 0, false)
		checks(three, w, []endorse.Vote{{Member: 1}, {Member: 3}, {Member: 5}}, 0, false)
	}
	checks(three, l, nil, 0, false)
}

func TestAdopt(t *testing.T) {
	now, next := list(4, 1, 3, 5), list(5, 1, 3, 5, 6)
	adopts := func(now, next roster.List, votes []endorse.Vote, want api.Errno) {
		t.Helper()
		got, e := endorse.Adopt(cohort, now, next, votes)
		if e != want || e == api.OK && !roster.Same(got, next) || e != api.OK && !roster.Same(got, roster.List{}) {
			t.Errorf("Adopt(%v, %v): %v, %d; must be %d", now, next, got, e, want)
		}
	}
	good := []endorse.Vote{vote(1, next), vote(3, next)}
	adopts(now, next, good, api.OK)
	adopts(now, next, good[:1], api.ErrSeal)
	adopts(now, next, nil, api.ErrSeal)
	adopts(now, next, []endorse.Vote{vote(1, next), vote(6, next)}, api.ErrSeal) // who comes has no vote yet
	adopts(now, next, []endorse.Vote{vote(1, now), vote(3, now), vote(5, now)}, api.ErrSeal)
	adopts(now, now, []endorse.Vote{vote(1, now), vote(3, now)}, api.ErrArg)
	skipped := list(6, 1, 3, 5, 6)
	adopts(now, skipped, []endorse.Vote{vote(1, skipped), vote(3, skipped)}, api.ErrArg)
	adopts(now, list(5, 1, 3, 6), nil, api.ErrArg)
	adopts(roster.List{}, next, good, api.ErrArg)
	adopts(now, roster.List{}, nil, api.ErrArg)
	fewer := list(5, 1, 5)
	adopts(now, fewer, []endorse.Vote{vote(3, fewer), vote(5, fewer)}, api.OK) // who goes has a vote still
	room := []int{1, 3, 5, 6, 99}
	mine := roster.List{Version: 5, Members: room[:4]}
	got, _ := endorse.Adopt(cohort, now, mine, good)
	got.Members[0] = 0
	_ = append(got.Members, 7)
	if !slices.Equal(room, []int{1, 3, 5, 6, 99}) {
		t.Error("Adopt's answer shares memory")
	}
}
