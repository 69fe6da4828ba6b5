package number_test

import (
	"math"
	"testing"

	"claviger/blend"
	"claviger/number"
)

func TestOf(t *testing.T) {
	for _, n := range []uint64{0, 1, 255, 256, 0x0102030405060708, 1 << 40, math.MaxUint64} {
		if got := number.Of(blend.Number(n)); got != n {
			t.Errorf("Of(Number(%d)): %d", n, got)
		}
	}
	if number.Of(nil) != 0 || number.Of([]byte{7}) != 7 || number.Of([]byte{1, 0}) != 256 {
		t.Error("Of few bytes")
	}
}
