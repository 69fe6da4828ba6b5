package blend_test

import (
	"bytes"
	"encoding/binary"
	"encoding/hex"
	"math"
	"testing"

	"claviger/api"
	"claviger/blend"
)

// plainSum is P2.1, word for word, over bytes that are padded first.
func plainSum(b []byte) (d api.Digest) {
	p := append(bytes.Clone(b), 0x80)
	for len(p)%8 != 0 {
		p = append(p, 0)
	}
	p = binary.LittleEndian.AppendUint64(p, uint64(len(b)))
	x := [4]uint32{0x636c6176, 0x69676572, 0x6b656570, 0x73616665}
	turn := func(v uint32, k int) uint32 { return v<<k | v>>(32-k) }
	stir := func() {
		x[0] += x[1]
		x[3] = turn(x[3]^x[0], 16)
		x[2] += x[3]
		x[1] = turn(x[1]^x[2], 12)
		x[0] += x[1]
		x[3] = turn(x[3]^x[0], 8)
		x[2] += x[3]
		x[1] = turn(x[1]^x[2], 7)
	}
	for ; len(p) > 0; p = p[8:] {
		x[0] ^= binary.LittleEndian.Uint32(p)
		x[3] ^= binary.LittleEndian.Uint32(p[4:])
		stir()
		stir()
		stir()
	}
	for range 8 {
		stir()
	}
	for i, w := range x {
		binary.LittleEndian.PutUint32(d[4*i:], w)
	}
	return d
}

func sample(n int) []byte {
	b := make([]byte, n)
	for i := range b {
		b[i] = byte(i*7 + n)
	}
	return b
}

func key() (k api.Digest) {
	for i := range k {
		k[i] = byte(i)
	}
	return k
}

// P2.1: sums that were worked out apart from this program.
func TestSumKnown(t *testing.T) {
	for n, want := range map[int]string{
		0:    "59d72dd8b2a0ee479413e8867f1206dc",
		1:    "c81ce439c5ca9a6b2592be83537120ed",
		3:    "37da3fe95bedd3164b30f450d6d1cc2d",
		7:    "ab01f4c50518eb1859407bf439f58294",
		8:    "e1c07d39356e5eef401c110793d63909",
		9:    "0d863cfdde01c5f0a7966388f6af7cd0",
		15:   "70a287fe4a85718927d1e6b7aecf5478",
		16:   "252b1c1a407d9d5c53af6b87cd808790",
		17:   "886b442a87731f1cb5988908169d8cd6",
		64:   "9eb7eea980250255fca27560017fae72",
		1000: "7dbb51755aa5747a2cee1e16dfbbc9c3",
	} {
		if d := blend.Sum(sample(n)); hex.EncodeToString(d[:]) != want {
			t.Errorf("Sum of %d bytes: %x", n, d)
		}
	}
	if blend.Sum([]byte{}) != blend.Sum(nil) {
		t.Error("Sum of nil is not Sum of none")
	}
}

func TestSumIsTheDocuments(t *testing.T) {
	for n := range 600 {
		room := sample(n + 20)
		before := bytes.Clone(room)
		if blend.Sum(room[:n]) != plainSum(room[:n]) {
			t.Fatalf("Sum of %d bytes", n)
		}
		if !bytes.Equal(room, before) {
			t.Fatalf("Sum of %d bytes changed what it was given", n)
		}
	}
}

// P2.2.
func TestKeyedTwoNumber(t *testing.T) {
	k, other := key(), plainSum(nil)
	for n := range 40 {
		room := sample(n + 20)
		before := bytes.Clone(room)
		if blend.Keyed(k, room[:n]) != plainSum(append(k[:], room[:n]...)) || !bytes.Equal(room, before) {
			t.Fatalf("Keyed of %d bytes", n)
		}
	}
	if d := blend.Keyed(k, []byte("abc")); hex.EncodeToString(d[:]) != "22bb6ac28330ed48f9832bd93ce1a6f5" {
		t.Errorf("Keyed: %x", d)
	}
	if blend.Two(k, other) != plainSum(append(k[:], other[:]...)) || blend.Two(k, other) != blend.Keyed(k, other[:]) || blend.Two(k, other) == blend.Two(other, k) {
		t.Error("Two")
	}
	for _, n := range []uint64{0, 1, 255, 256, 0x0102030405060708, 1 << 40, 1 << 63, math.MaxUint64} {
		if !bytes.Equal(blend.Number(n), binary.BigEndian.AppendUint64(nil, n)) {
			t.Errorf("Number(%d): %x", n, blend.Number(n))
		}
	}
}

// plainStream is P2.2's Stream, word for word, of MaxSlot bytes.
func plainStream(k api.Digest, n uint64) []byte {
	var out []byte
	for i := uint64(0); len(out) < 1<<13; i++ {
		b := binary.BigEndian.AppendUint64(binary.BigEndian.AppendUint64(k[:], n), i)
		d := plainSum(b)
		out = append(out, d[:]...)
	}
	return out
}

func TestStream(t *testing.T) {
	k := key()
	for _, n := range []uint64{0, 1, 258, 1 << 40, math.MaxUint64} {
		whole := plainStream(k, n)
		for _, c := range []struct{ count, want int }{{math.MinInt, 0}, {-1, 0}, {0, 0}, {1, 1}, {15, 15}, {16, 16}, {17, 17}, {32, 32}, {33, 33}, {4097, 4097}, {8191, 8191}, {8192, 8192}, {8193, 8192}, {math.MaxInt, 8192}} {
			if got := blend.Stream(k, n, c.count); !bytes.Equal(got, whole[:c.want]) {
				t.Errorf("Stream(k, %d, %d): %d bytes", n, c.count, len(got))
			}
		}
	}
	if got := hex.EncodeToString(blend.Stream(k, 258, 40)); got != "7c30f557e8cd757faed71b537536aade033435eddc6b57f92fdc2880549749677a58b041c5dd9c1b" {
		t.Errorf("Stream: %s", got)
	}
}

func TestAnswersAreNew(t *testing.T) {
	k := key()
	a, b := blend.Stream(k, 1, 20), blend.Number(7)
	a[0]++
	b[0]++
	if bytes.Equal(a, blend.Stream(k, 1, 20)) || bytes.Equal(b, blend.Number(7)) {
		t.Error("an answer is seen elsewhere")
	}
}

func TestSame(t *testing.T) {
	for _, c := range []struct {
		a, b []byte
		want bool
	}{
		{nil, nil, true},
		{nil, []byte{}, true},
		{[]byte{}, nil, true},
		{nil, []byte{0}, false},
		{[]byte{0}, nil, false},
		{[]byte("ab"), []byte("ab"), true},
		{[]byte("ab"), []byte("abc"), false},
		{[]byte("abc"), []byte("ab"), false},
		{[]byte("abc"), []byte("abd"), false},
		{[]byte("bbc"), []byte("abc"), false},
		{[]byte("abcx")[:3], []byte("abcy")[:3], true},
	} {
		if got := blend.Same(c.a, c.b); got != c.want {
			t.Errorf("Same(%q, %q): %v", c.a, c.b, got)
		}
	}
}
