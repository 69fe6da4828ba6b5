package envelope_test

import (
	"bytes"
	"encoding/hex"
	"math"
	"slices"
	"testing"

	"claviger/api"
	"claviger/blend"
	"claviger/envelope"
	"claviger/veil"
)

func key() (k api.Digest) {
	for i := range k {
		k[i] = byte(i)
	}
	return k
}

// P5.1.
func TestCloseKnown(t *testing.T) {
	b, e := envelope.Close(key(), 0x0102030405060708, 9, []byte("a text"))
	if e != api.OK || hex.EncodeToString(b) != "0102030405060708b24e6d9f42bf53076d341688a956" {
		t.Errorf("Close: %x, %d", b, e)
	}
	b, e = envelope.Close(key(), 0, 0, nil)
	if e != api.OK || hex.EncodeToString(b) != "000000000000000068cc27821f0fce79" {
		t.Errorf("Close of nothing: %x, %d", b, e)
	}
	if envelope.Head != 8 {
		t.Error("Head")
	}
}

func TestInner(t *testing.T) {
	for _, seed := range []uint64{0, 1, 1 << 50, math.MaxUint64} {
		if envelope.Inner(key(), seed) != blend.Keyed(key(), blend.Number(seed)) {
			t.Errorf("Inner(k, %d)", seed)
		}
	}
}

func TestCloseAndOpen(t *testing.T) {
	for _, seed := range []uint64{0, 7, 1 << 44, math.MaxUint64} {
		for _, to := range []byte{0, 7, 64, 131, 255} {
			for _, n := range []int{0, 1, 100, api.MaxSlot - 16} {
				room := bytes.Repeat([]byte{7}, n+20)
				b, e := envelope.Close(key(), seed, to, room[:n])
				inner := blend.Keyed(key(), blend.Number(seed))
				want := slices.Concat(blend.Number(seed), veil.Seal(inner, seed, []byte{to}, room[:n]))
				if e != api.OK || !bytes.Equal(b, want) || !bytes.Equal(room, bytes.Repeat([]byte{7}, n+20)) {
					t.Fatalf("Close(k, %d, %d, %d bytes): %d", seed, to, n, e)
				}
				text, e := envelope.Open(key(), to, b)
				if e != api.OK || !bytes.Equal(text, room[:n]) || !bytes.Equal(b, want) {
					t.Fatalf("Open(k, %d, %d bytes): %d", to, n, e)
				}
			}
		}
	}
}

func TestRefusals(t *testing.T) {
	for _, n := range []int{api.MaxSlot - 15, api.MaxSlot, api.MaxSlot + 100} {
		if b, e := envelope.Close(key(), 1, 2, make([]byte, n)); e != api.ErrLong || len(b) != 0 {
			t.Errorf("Close of %d bytes: %d, %d", n, len(b), e)
		}
	}
	refused := func(what string, k api.Digest, to byte, b []byte, want api.Errno) {
		t.Helper()
		if got, e := envelope.Open(k, to, b); e != want || len(got) != 0 {
			t.Errorf("Open of %s: %q, %d", what, got, e)
		}
	}
	for n := range 16 {
		refused("few bytes", key(), 2, make([]byte, n), api.ErrForm)
	}
	refused("16 bytes", key(), 2, make([]byte, 16), api.ErrSeal)
	refused("MaxSlot bytes", key(), 2, make([]byte, api.MaxSlot), api.ErrSeal)
	refused("too many bytes", key(), 2, make([]byte, api.MaxSlot+1), api.ErrLong)
	b, _ := envelope.Close(key(), 77, 2, []byte("text"))
	refused("another to", key(), 3, b, api.ErrSeal)
	refused("another key", api.Digest{}, 2, b, api.ErrSeal)
	for i := range b {
		turned := bytes.Clone(b)
		turned[i] ^= 0x80
		refused("a turned byte", key(), 2, turned, api.ErrSeal)
	}
	refused("a byte less", key(), 2, b[:len(b)-1], api.ErrSeal)
	refused("a byte more", key(), 2, append(bytes.Clone(b), 0), api.ErrSeal)
	empty, _ := envelope.Close(key(), 77, 2, nil)
	refused("nothing, less a byte", key(), 2, empty[:15], api.ErrForm)
}
