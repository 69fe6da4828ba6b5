package frame_test

import (
	"bytes"
	"math"
	"testing"

	"claviger/api"
	"claviger/blend"
	"claviger/codec"
	"claviger/frame"
	"claviger/veil"
)

var (
	key  = api.Digest{1, 2, 3}
	prev = api.Digest{15: 9}
)

func records() []api.Record {
	v := api.Vault{ID: api.ID{1, 2, 3, 4}, Gen: 2, Pin: api.Digest{5}, Secret: []byte("abc"), Limit: 5, Owner: api.Digest{6}}
	return []api.Record{
		{Kind: api.Keep, Vault: v},
		{Kind: api.Out, Shard: 3, To: 1, Epoch: 2},
		{Kind: api.In, Shard: 3, Epoch: 2, Vaults: []api.Vault{v}},
		{Kind: api.Done, Shard: 3, Epoch: 2},
	}
}

// P9.1.
func TestSealAndOpen(t *testing.T) {
	for _, r := range records() {
		text, _ := codec.Record(r)
		for _, n := range []uint64{0, 1, 77, math.MaxUint64} {
			b, e := frame.Seal(key, n, prev, r)
			if e != api.OK || !bytes.Equal(b, veil.Seal(key, n, prev[:], text)) {
				t.Fatalf("Seal(k, %d, prev, %+v): %d", n, r, e)
			}
			back, e := frame.Open(key, n, prev, b)
			again, _ := codec.Record(back)
			if e != api.OK || !bytes.Equal(again, text) {
				t.Fatalf("Open(k, %d): %+v, %d", n, back, e)
			}
			refused := func(what string, k api.Digest, n uint64, prev api.Digest, b []byte) {
				t.Helper()
				if got, e := frame.Open(k, n, prev, b); e != api.ErrSeal || got.Kind != 0 || got.Shard != 0 || got.Epoch != 0 || got.Vaults != nil || !codec.Same(got.Vault, api.Vault{}) {
					t.Errorf("Open with %s: %+v, %d", what, got, e)
				}
			}
			refused("another key", prev, n, prev, b)
			refused("another n", key, n+1, prev, b)
			refused("another prev", key, n, key, b)
			refused("no bytes", key, n, prev, nil)
			refused("a byte less", key, n, prev, b[:len(b)-1])
			refused("a byte more", key, n, prev, append(bytes.Clone(b), 0))
			for i := range b {
				turned := bytes.Clone(b)
				turned[i] ^= 4
				refused("a turned byte", key, n, prev, turned)
			}
		}
	}
}

func TestWrongRecords(t *testing.T) {
	for _, r := range []api.Record{{}, {Kind: 9}, {Kind: api.Keep}, {Kind: api.Out, Shard: 16, Epoch: 1}, {Kind: api.Done}} {
		if b, e := frame.Seal(key, 1, prev, r); e != api.ErrArg || len(b) != 0 {
			t.Errorf("Seal(%+v): %x, %d", r, b, e)
		}
	}
	for _, text := range [][]byte{nil, {9}, {2, 3, 1}, {4, 3, 0, 0, 0, 0, 0, 0, 0, 0}} {
		if r, e := frame.Open(key, 1, prev, veil.Seal(key, 1, prev[:], text)); e != api.ErrForm || r.Kind != 0 || r.Shard != 0 {
			t.Errorf("Open of %x: %+v, %d", text, r, e)
		}
	}
}

func TestHead(t *testing.T) {
	for _, b := range [][]byte{nil, {}, []byte("abc"), make([]byte, 500)} {
		if frame.Head(prev, b) != blend.Two(prev, blend.Sum(b)) {
			t.Errorf("Head of %d bytes", len(b))
		}
	}
	if frame.Head(prev, nil) == frame.Head(key, nil) || frame.Head(prev, nil) == frame.Head(prev, []byte{0}) {
		t.Error("Head hangs on both")
	}
}
