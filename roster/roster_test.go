package roster_test

import (
	"math"
	"slices"
	"testing"

	"claviger/api"
	"claviger/roster"
)

func list(version uint64, members ...int) roster.List {
	return roster.List{Version: version, Members: members}
}

// all is each list of that version that may be.
func all(version uint64) (out []roster.List) {
	for bits := 1; bits < 256; bits++ {
		l := list(version)
		for m := range 8 {
			if bits>>m&1 == 1 {
				l.Members = append(l.Members, m)
			}
		}
		out = append(out, l)
	}
	return out
}

func wrongs() []roster.List {
	return []roster.List{
		{}, list(1), list(0, 1), list(api.MaxCount+1, 1), list(math.MaxUint64, 1), list(1, -1), list(1, 8), list(1, 0, 8), list(1, 1, 1),
		list(1, 2, 1), list(1, 0, 2, 1), list(1, -1, 0), list(1, math.MinInt), list(1, math.MaxInt), list(1, 0, 1, 2, 3, 4, 5, 6, 7, 8), list(1, 0, 0, 1, 2, 3, 4, 5, 6, 7),
	}
}

func same(a, b roster.List) bool {
	return a.Version == b.Version && slices.Equal(a.Members, b.Members)
}

// P14.1.
func TestRight(t *testing.T) {
	for _, version := range []uint64{1, 2, api.MaxCount} {
		for _, l := range all(version) {
			if !roster.Right(l) || roster.Majority(l) != len(l.Members)/2+1 {
				t.Errorf("%v: %v, %d", l, roster.Right(l), roster.Majority(l))
			}
			for m := -2; m < 11; m++ {
				if roster.Has(l, m) != slices.Contains(l.Members, m) {
					t.Errorf("Has(%v, %d)", l, m)
				}
			}
		}
	}
	for _, l := range wrongs() {
		if roster.Right(l) || roster.Majority(l) != 0 {
			t.Errorf("%v: %v, %d", l, roster.Right(l), roster.Majority(l))
		}
		for _, m := range []int{-1, 0, 1, 2, 7, 8, math.MaxInt, math.MinInt} {
			with, ok := roster.With(l, m)
			without, is := roster.Without(l, m)
			if roster.Has(l, m) || ok || is || !same(with, roster.List{}) || !same(without, roster.List{}) {
				t.Errorf("%v with %d", l, m)
			}
		}
	}
	for n, want := range []int{0, 1, 2, 2, 3, 3, 4, 4, 5} {
		if l := list(1, []int{0, 1, 2, 3, 4, 5, 6, 7}[:n]...); roster.Majority(l) != want {
			t.Errorf("Majority of %d: %d", n, roster.Majority(l))
		}
	}
}

func TestWithAndWithout(t *testing.T) {
	for _, version := range []uint64{1, 77, api.MaxCount - 1, api.MaxCount} {
		for _, l := range all(version) {
			was := list(l.Version, slices.Clone(l.Members)...)
			for m := -2; m < 11; m++ {
				has := slices.Contains(l.Members, m)
				want, ok := roster.List{}, !has && m >= 0 && m < 8 && version < api.MaxCount
				if ok {
					want = list(version+1, append(slices.Clone(l.Members), m)...)
					slices.Sort(want.Members)
				}
				if got, is := roster.With(l, m); is != ok || !same(got, want) {
					t.Errorf("With(%v, %d): %v, %v", l, m, got, is)
				}
				want, ok = roster.List{}, has && len(l.Members) > 1 && version < api.MaxCount
				if ok {
					want = list(version+1, slices.DeleteFunc(slices.Clone(l.Members), func(x int) bool { return x == m })...)
				}
				if got, is := roster.Without(l, m); is != ok || !same(got, want) {
					t.Errorf("Without(%v, %d): %v, %v", l, m, got, is)
				}
			}
			if !same(l, was) {
				t.Fatalf("%v was changed: %v", was, l)
			}
		}
	}
}

func TestMemory(t *testing.T) {
	room := []int{1, 3, 5, 7, 7, 7}
	l := list(1, room[:3]...)
	with, _ := roster.With(l, 2)
	last, _ := roster.With(l, 6)
	without, _ := roster.Without(l, 3)
	if !slices.Equal(room, []int{1, 3, 5, 7, 7, 7}) {
		t.Errorf("what was handed in is changed: %v", room)
	}
	room[0], with.Members[1], last.Members[0] = 0, 9, 9
	if !slices.Equal(without.Members, []int{1, 5}) || with.Members[0] != 1 || room[1] != 3 {
		t.Error("lists share memory")
	}
}

func TestSame(t *testing.T) {
	for i, a := range all(3) {
		for j, b := range all(3) {
			if roster.Same(a, b) != (i == j) {
				t.Errorf("Same(%v, %v)", a, b)
			}
		}
	}
	if roster.Same(list(1, 2), list(2, 2)) || !roster.Same(roster.List{}, list(0, []int{}...)) || !roster.Same(list(9, 5, 4), list(9, 5, 4)) {
		t.Error("Same")
	}
}

// P14.2.
func TestFollows(t *testing.T) {
	for _, a := range all(3) {
		for _, version := range []uint64{2, 3, 4, 5} {
			for _, b := range all(version) {
				unlike := 0
				for m := range 8 {
					if slices.Contains(a.Members, m) != slices.Contains(b.Members, m) {
						unlike++
					}
				}
				if roster.Follows(a, b) != (version == 4 && unlike == 1) {
					t.Fatalf("Follows(%v, %v)", a, b)
				}
			}
		}
		if roster.Follows(a, a) {
			t.Errorf("Follows of the same one: %v", a)
		}
	}
	for _, c := range [][2]roster.List{
		{list(api.MaxCount, 1), list(api.MaxCount+1, 1, 2)}, {list(0, 1), list(1, 1, 2)}, {list(1, 1), list(2)}, {list(1), list(2, 1)},
		{list(1, 2, 1), list(2, 1, 2, 3)}, {list(1, 1, 2), list(2, 2, 1, 3)}, {list(1, 1, 7), list(2, 1, 7, 8)}, {{}, {}}, {list(math.MaxUint64, 1), list(0, 1, 2)},
	} {
		if roster.Follows(c[0], c[1]) {
			t.Errorf("Follows(%v, %v)", c[0], c[1])
		}
	}
	if !roster.Follows(list(api.MaxCount-1, 1), list(api.MaxCount, 1, 2)) {
		t.Error("Follows of the last version")
	}
}
