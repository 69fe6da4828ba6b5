package veil_test

import (
	"bytes"
	"encoding/hex"
	"math"
	"slices"
	"testing"

	"claviger/api"
	"claviger/blend"
	"claviger/veil"
)

func key() (k api.Digest) {
	for i := range k {
		k[i] = byte(i)
	}
	return k
}

func sample(n int) []byte {
	b := make([]byte, n)
	for i := range b {
		b[i] = byte(i*5 + n)
	}
	return b
}

// plainSeal is P4.1's Seal, word for word.
func plainSeal(k api.Digest, n uint64, ad, text []byte) []byte {
	out := bytes.Clone(text)
	for i, x := range blend.Stream(k, n, len(text)) {
		out[i] = text[i] ^ x
	}
	d := blend.Keyed(blend.Two(k, k), slices.Concat(blend.Number(n), blend.Number(uint64(len(ad))), ad, text))
	return append(out, d[:8]...)
}

func TestSealKnown(t *testing.T) {
	if got := hex.EncodeToString(veil.Seal(key(), 5, []byte("ad"), []byte("a text"))); got != "9590396df79e2d81e15364e26623" {
		t.Errorf("Seal: %s", got)
	}
	if got := hex.EncodeToString(veil.Seal(key(), 5, nil, nil)); got != "0948190b2b015205" {
		t.Errorf("Seal of nothing: %s", got)
	}
	if veil.Mark != 8 {
		t.Error("Mark")
	}
}

// P4.1, P4.2: what Seal makes is the document's, and Open tells the text of it.
func TestSealAndOpen(t *testing.T) {
	for _, n := range []uint64{0, 1, 1 << 40, math.MaxUint64} {
		for _, ads := range []int{0, 1, 5, 40} {
			for _, texts := range []int{0, 1, 7, 16, 17, 300, api.MaxSlot - veil.Mark} {
				ad, text := sample(ads+9), sample(texts+9)
				adWas, textWas := bytes.Clone(ad), bytes.Clone(text)
				b := veil.Seal(key(), n, ad[:ads], text[:texts])
				if !bytes.Equal(b, plainSeal(key(), n, ad[:ads], text[:texts])) {
					t.Fatalf("Seal(k, %d, %d bytes, %d bytes)", n, ads, texts)
				}
				back, e := veil.Open(key(), n, ad[:ads], b)
				if e != api.OK || !bytes.Equal(back, text[:texts]) {
					t.Fatalf("Open(k, %d, %d bytes, %d bytes): %d", n, ads, texts, e)
				}
				if !bytes.Equal(ad, adWas) || !bytes.Equal(text, textWas) {
					t.Fatal("Seal or Open changed what it was given")
				}
				if texts > 0 {
					back[0]++
					if again, _ := veil.Open(key(), n, ad[:ads], b); !bytes.Equal(again, text[:texts]) {
						t.Fatal("an answer of Open is seen elsewhere")
					}
				}
			}
		}
	}
}

func TestOpenRefuses(t *testing.T) {
	k, ad, text := key(), []byte("ad"), []byte("some text")
	b := veil.Seal(k, 5, ad, text)
	other := k
	other[15]++
	refused := func(what string, k api.Digest, n uint64, ad, b []byte) {
		t.Helper()
		if got, e := veil.Open(k, n, ad, b); e != api.ErrSeal || len(got) != 0 {
			t.Errorf("Open of %s: %q, %d", what, got, e)
		}
	}
	refused("another key", other, 5, ad, b)
	refused("another n", k, 6, ad, b)
	refused("another ad", k, 5, []byte("da"), b)
	refused("no ad", k, 5, nil, b)
	refused("a longer ad", k, 5, []byte("ad\x00"), b)
	for n := range len(b) {
		refused("a part", k, 5, ad, b[:n])
		turned := bytes.Clone(b)
		turned[n] ^= 1
		refused("a turned byte", k, 5, ad, turned)
	}
	refused("a byte more", k, 5, ad, append(bytes.Clone(b), 0))
	refused("nothing", k, 5, ad, nil)
	refused("seven bytes", k, 5, nil, veil.Seal(k, 5, nil, nil)[:7])
	refused("another n, no text", k, 6, nil, veil.Seal(k, 5, nil, nil))
	refused("text that went over to ad", k, 5, []byte("ads"), veil.Seal(k, 5, ad, []byte("some")))
}

func TestTooLong(t *testing.T) {
	k := key()
	if b := veil.Seal(k, 1, nil, sample(api.MaxSlot-veil.Mark)); len(b) != api.MaxSlot {
		t.Errorf("the longest text: %d", len(b))
	}
	for _, n := range []int{api.MaxSlot - veil.Mark + 1, api.MaxSlot, api.MaxSlot + 1, 100000} {
		if b := veil.Seal(k, 1, nil, sample(n)); len(b) != 0 {
			t.Errorf("a text of %d: %d", n, len(b))
		}
		if b, e := veil.Open(k, 1, nil, plainSeal(k, 1, nil, sample(n))[:n]); e != api.ErrSeal || len(b) != 0 {
			t.Errorf("Open of a text of %d: %d", n, e)
		}
	}
	longest := veil.Seal(k, 1, sample(api.MaxSlot), []byte("x"))
	if !bytes.Equal(longest, plainSeal(k, 1, sample(api.MaxSlot), []byte("x"))) {
		t.Error("the longest ad")
	}
	if b, e := veil.Open(k, 1, sample(api.MaxSlot), longest); e != api.OK || string(b) != "x" {
		t.Errorf("Open of the longest ad: %d", e)
	}
	ad := sample(api.MaxSlot + 1)
	if b := veil.Seal(k, 1, ad, []byte("x")); len(b) != 0 {
		t.Errorf("an ad that is too long: %d", len(b))
	}
	if b, e := veil.Open(k, 1, ad, plainSeal(k, 1, ad, []byte("x"))); e != api.ErrSeal || len(b) != 0 {
		t.Errorf("Open of an ad that is too long: %d", e)
	}
}

// A sealed thing above MaxSlot is none of Seal's, though its mark be right.
func TestOpenAboveMaxSlot(t *testing.T) {
	k, text := key(), sample(api.MaxSlot-veil.Mark+1)
	d := blend.Keyed(blend.Two(k, k), slices.Concat(blend.Number(1), blend.Number(0), text))
	hidden := bytes.Clone(text)
	for i, x := range blend.Stream(k, 1, len(text)) {
		hidden[i] ^= x
	}
	if b, e := veil.Open(k, 1, nil, append(hidden, d[:8]...)); e != api.ErrSeal || len(b) != 0 {
		t.Errorf("Open: %d bytes, %d", len(b), e)
	}
}
