package stretch_test

import (
	"encoding/hex"
	"math"
	"testing"

	"claviger/api"
	"claviger/blend"
	"claviger/stretch"
)

func salt() (k api.Digest) {
	for i := range k {
		k[i] = byte(i)
	}
	return k
}

func isHex(d api.Digest, want string) bool { return hex.EncodeToString(d[:]) == want }

// P3.1.
func TestDigits(t *testing.T) {
	for _, c := range []struct {
		d      string
		rounds int
		want   string
	}{
		{"1234", 0, "57c021df606402cb462437692e9f6911"},
		{"1234", 3, "f14fb6e05fee5bdf8dac9e2633858b1b"},
		{"1234", api.MaxRounds, "4dd6db85f25b5892431df5ff5aaf8c68"},
		{"", 2000, "f1409a280ba414bcf318694b1144fc41"},
	} {
		if got := stretch.Digits(c.d, salt(), c.rounds); !isHex(got, c.want) {
			t.Errorf("Digits(%q, salt, %d): %x", c.d, c.rounds, got)
		}
	}
	want := blend.Keyed(salt(), []byte("98765"))
	for rounds := range api.MaxRounds + 1 {
		if rounds > 0 {
			want = blend.Two(want, salt())
		}
		if stretch.Digits("98765", salt(), rounds) != want {
			t.Fatalf("Digits of %d rounds", rounds)
		}
	}
	for _, rounds := range []int{-1, -1000, math.MinInt} {
		if stretch.Digits("98765", salt(), rounds) != stretch.Digits("98765", salt(), 0) {
			t.Errorf("Digits of %d rounds", rounds)
		}
	}
	for _, rounds := range []int{api.MaxRounds + 1, 5000, math.MaxInt} {
		if stretch.Digits("98765", salt(), rounds) != want {
			t.Errorf("Digits of %d rounds", rounds)
		}
	}
	if stretch.Digits("not \xff digits", salt(), 1) != blend.Two(blend.Keyed(salt(), []byte("not \xff digits")), salt()) {
		t.Error("Digits of other bytes")
	}
}

func TestSalt(t *testing.T) {
	if got := stretch.Salt(api.ID{1, 2, 3, 4}); !isHex(got, "de6f3f80efb174d4ac5c46cac817ebaf") {
		t.Errorf("Salt: %x", got)
	}
	for _, id := range []api.ID{{}, {1}, {255, 255, 255, 255}} {
		if stretch.Salt(id) != blend.Sum(id[:]) {
			t.Errorf("Salt(%v)", id)
		}
	}
}

func TestPin(t *testing.T) {
	id := api.ID{1, 2, 3, 4}
	for _, s := range []string{"1234", "12 34", "12-34 ", "\uff11\u0662\u06f34", "1\u00a0234"} {
		if got, e := stretch.Pin(s, id); e != api.OK || !isHex(got, "64022033365ad2c8cbf79c5eb42a1e62") {
			t.Errorf("Pin(%q): %x, %d", s, got, e)
		}
	}
	for _, s := range []string{"", "12", "123", "1234567890123", "12a4", "1234\xff"} {
		if got, e := stretch.Pin(s, id); e != api.ErrPin || got != (api.Digest{}) {
			t.Errorf("Pin(%q): %x, %d", s, got, e)
		}
	}
	for _, other := range []api.ID{{}, {4, 3, 2, 1}} {
		got, e := stretch.Pin("0 1 2 3 4 5 6 7 8 9 1 2", other)
		if e != api.OK || got != stretch.Digits("012345678912", blend.Sum(other[:]), api.Rounds) {
			t.Errorf("Pin for %v: %x, %d", other, got, e)
		}
	}
}
