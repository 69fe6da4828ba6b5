package register_test

import (
	"math"
	"testing"

	"claviger/api"
	"claviger/register"
)

var head = api.Digest{15: 7}

// rights and wrongs are registers on both sides of each edge of P8.1.
func rights() []api.Register {
	const most = api.MaxCount
	return []api.Register{
		{},
		{Boot: 1},
		{Boot: most, Point: 1},
		{Count: 1, Head: head},
		{Count: 1},
		{Count: 8, Head: head},
		{Count: 9, Base: 1, Head: head, Point: 1},
		{Count: 8, Base: 8, Head: head, Point: 1},
		{Count: 5, Base: 1, Head: head},
		{Boot: 3, Count: most, Base: most, Head: head},
		{Boot: most, Count: most, Base: most - 8, Head: head},
		{Boot: most - 1, Count: most - 1, Base: most - 8, Head: head, Point: 1},
	}
}

func wrongs() []api.Register {
	const most = api.MaxCount
	return []api.Register{
		{Boot: most + 1},
		{Boot: math.MaxUint64},
		{Head: head},
		{Head: api.Digest{1}},
		{Count: 1, Base: 2, Head: head},
		{Base: 1},
		{Count: 9, Head: head},
		{Count: 10, Base: 1, Head: head},
		{Count: most + 1, Base: most, Head: head},
		{Count: math.MaxUint64, Base: math.MaxUint64, Head: head},
		{Count: 1, Base: math.MaxUint64, Head: head},
		{Point: 2},
		{Point: -1},
		{Point: math.MinInt},
		{Point: math.MaxInt},
		{Count: 3, Head: head, Point: 2},
	}
}

func TestRightAndHeld(t *testing.T) {
	for _, r := range rights() {
		if !register.Right(r) || register.Held(r) != int(r.Count-r.Base) {
			t.Errorf("%+v: %v, %d", r, register.Right(r), register.Held(r))
		}
	}
	for _, r := range wrongs() {
		if register.Right(r) || register.Held(r) != 0 {
			t.Errorf("%+v: %v, %d", r, register.Right(r), register.Held(r))
		}
	}
	if register.Held(api.Register{}) != 0 {
		t.Error("Held of a new one")
	}
}

func expect(t *testing.T, what string, r, got api.Register, ok bool, want api.Register, is bool) {
	t.Helper()
	if ok != is || ok && got != want || !ok && got != (api.Register{}) {
		t.Errorf("%s(%+v): %+v, %v; must be %+v, %v", what, r, got, ok, want, is)
	}
}

func TestSteps(t *testing.T) {
	other := api.Digest{1, 2, 3}
	for _, r := range rights() {
		for _, h := range []api.Digest{other, {}} {
			next, ok := register.Next(r, h)
			expect(t, "Next", r, next, ok, api.Register{Boot: r.Boot, Count: r.Count + 1, Base: r.Base, Head: h, Point: r.Point}, r.Count < api.MaxCount && r.Count-r.Base < 8)
			fold, ok := register.Fold(r, h)
			expect(t, "Fold", r, fold, ok, api.Register{Boot: r.Boot, Count: r.Count, Base: r.Count, Head: h, Point: 1 - r.Point}, r.Count > r.Base)
		}
		boot, ok := register.Boot(r)
		expect(t, "Boot", r, boot, ok, api.Register{Boot: r.Boot + 1, Count: r.Count, Base: r.Base, Head: r.Head, Point: r.Point}, r.Boot < api.MaxCount)
	}
	for _, r := range wrongs() {
		next, ok := register.Next(r, other)
		expect(t, "Next", r, next, ok, api.Register{}, false)
		boot, ok := register.Boot(r)
		expect(t, "Boot", r, boot, ok, api.Register{}, false)
		fold, ok := register.Fold(r, other)
		expect(t, "Fold", r, fold, ok, api.Register{}, false)
	}
	if _, ok := register.Fold(api.Register{}, api.Digest{}); ok {
		t.Error("Fold of a new one")
	}
}

func TestBehind(t *testing.T) {
	for _, c := range []struct {
		a, b api.Register
		want bool
	}{
		{api.Register{}, api.Register{}, false},
		{api.Register{Boot: 1}, api.Register{Boot: 2}, true},
		{api.Register{Boot: 2}, api.Register{Boot: 1}, false},
		{api.Register{Count: 1}, api.Register{Count: 2}, true},
		{api.Register{Count: 2}, api.Register{Count: 1}, false},
		{api.Register{Boot: 1, Count: 2}, api.Register{Boot: 2, Count: 1}, true},
		{api.Register{Boot: 2, Count: 1}, api.Register{Boot: 1, Count: 2}, true},
		{api.Register{Boot: 2, Count: 2}, api.Register{Boot: 2, Count: 2, Base: 2, Point: 1, Head: head}, false},
		{api.Register{Count: math.MaxUint64 - 1}, api.Register{Count: math.MaxUint64}, true},
		{api.Register{Base: 1}, api.Register{Base: 2}, false},
	} {
		if register.Behind(c.a, c.b) != c.want {
			t.Errorf("Behind(%+v, %+v)", c.a, c.b)
		}
	}
}
