package image_test

import (
	"bytes"
	"encoding/binary"
	"math"
	"math/rand"
	"testing"

	"claviger/api"
	"claviger/codec"
	"claviger/image"
	"claviger/shard"
	"claviger/state"
)

// row tells n vaults of a shard, by rising ID.
func row(n, of int) (out []api.Vault) {
	for i := 0; len(out) < n; i++ {
		if id := (api.ID{byte(i >> 8), byte(i), 7, 7}); shard.Of(id) == of {
			out = append(out, api.Vault{ID: id, Gen: uint64(i + 1), Pin: api.Digest{1}, Secret: bytes.Repeat([]byte{byte(i)}, api.MaxSecret), Limit: 5, Used: 1, Owner: api.Digest{2}})
		}
	}
	return out
}

// plain is P17.1's Bytes, word for word.
func plain(s *state.State) []byte {
	member, members := s.Who()
	b := []byte{byte(member), byte(members)}
	for n := range api.Shards {
		role, epoch, to := s.Role(n)
		b = binary.BigEndian.AppendUint64(append(b, byte(role)), epoch)
		b = append(b, byte(to), byte(len(s.Vaults(n))))
		for _, v := range s.Vaults(n) {
			x, _ := codec.Vault(v)
			b = append(b, x...)
		}
	}
	return b
}

func reads(t *testing.T, s *state.State) {
	t.Helper()
	b := image.Bytes(s)
	if !bytes.Equal(b, plain(s)) {
		t.Fatalf("Bytes: %x", b)
	}
	member, members := s.Who()
	back, e := image.Of(member, members, b)
	if e != api.OK || !state.Same(back, s) {
		t.Errorf("Of of Bytes: %d", e)
	}
}

func refuses(t *testing.T, what string, member, members int, b []byte) {
	t.Helper()
	if s, e := image.Of(member, members, b); e != api.ErrForm || s != nil {
		t.Errorf("Of %s: %v, %d", what, s, e)
	}
}

// mixed is a state with shards of each role.
func mixed() *state.State {
	s := state.New(1, 3)
	s.Set(4, state.Lent, 0x0102, 2, row(2, 4))
	s.Set(7, state.Own, api.MaxCount, 0, row(4, 7))
	s.Set(10, state.Away, 3, 0, nil)
	s.Set(13, state.Own, 9, 0, []api.Vault{{ID: row(1, 13)[0].ID, Gen: 2, Gone: true, Wiped: true}})
	return s
}

// P17.1, P17.2.
func TestThereAndBack(t *testing.T) {
	for members := 1; members <= api.MaxMembers; members++ {
		for member := range members {
			reads(t, state.New(member, members))
			if n := len(image.Bytes(state.New(member, members))); n != 2+16*11 {
				t.Errorf("Bytes of a new one: %d", n)
			}
		}
	}
	reads(t, mixed())
	full := state.New(0, 2)
	for n := range api.Shards {
		full.Set(n, state.Lent, 5, 1, row(4, n))
	}
	reads(t, full)
	if image.Most() != 2+16*(11+4*(48+64)) || len(image.Bytes(full)) != image.Most() {
		t.Errorf("Most: %d, of a full one %d", image.Most(), len(image.Bytes(full)))
	}
	if len(image.Bytes(nil)) != 0 {
		t.Error("Bytes of nil")
	}
}

func TestRefusals(t *testing.T) {
	s := mixed()
	b := image.Bytes(s)
	for i := range b {
		refuses(t, "a part", 1, 3, b[:i])
	}
	refuses(t, "a byte more", 1, 3, append(bytes.Clone(b), 0))
	for _, who := range [][2]int{{0, 3}, {2, 3}, {1, 2}, {1, 4}, {257, 3}, {1, 259}, {-1, 3}, {1, 1}, {0, 0}, {math.MinInt, math.MaxInt}} {
		refuses(t, "another member", who[0], who[1], b)
	}
	forged := bytes.Clone(b)
	forged[0], forged[1] = 9, 10
	refuses(t, "members that there are not", 9, 10, forged)
	refuses(t, "nothing", 0, 1, nil)
	with := func(what string, change func(b []byte)) {
		t.Helper()
		x := bytes.Clone(b)
		change(x)
		refuses(t, what, 1, 3, x)
	}
	shard0 := 2
	with("a role that is none", func(b []byte) { b[shard0] = 3 })
	with("epoch 0", func(b []byte) { b[shard0+8] = 0 })
	with("an epoch above MaxCount", func(b []byte) { b[shard0+1] = 1 })
	with("a to that an Away one has", func(b []byte) { b[shard0+9] = 1 })
	with("vaults that are not there", func(b []byte) { b[shard0+10] = 1 })
	with("many vaults that are not there", func(b []byte) { b[shard0+10] = 255 })
	shard4 := 2 + 4*11
	with("lent to itself", func(b []byte) { b[shard4+9] = 1 })
	with("lent to who is not there", func(b []byte) { b[shard4+9] = 3 })
	with("a vault less", func(b []byte) { b[shard4+10] = 1 })
	with("a vault of another shard", func(b []byte) { b[shard4+11+2]++ })
	with("vaults that do not rise", func(b []byte) {
		x := bytes.Clone(b[shard4+11 : shard4+11+112])
		copy(b[shard4+11:], b[shard4+11+112:shard4+11+224])
		copy(b[shard4+11+112:], x)
	})
	with("a vault that may not be", func(b []byte) { b[shard4+11+12] = 2 })
	with("a limit that may not be", func(b []byte) { b[shard4+11+13] = 33 })
}

func TestAnyBytes(t *testing.T) {
	q := rand.New(rand.NewSource(17))
	b := image.Bytes(mixed())
	read := 0
	for range 20000 {
		x := bytes.Clone(b)
		for range 1 + q.Intn(2) {
			x[q.Intn(len(x))] ^= 1 << q.Intn(8)
		}
		s, e := image.Of(1, 3, x)
		if e == api.OK {
			if read++; !bytes.Equal(image.Bytes(s), x) {
				t.Fatalf("a state of %x", x)
			}
		} else if e != api.ErrForm || s != nil {
			t.Fatalf("Of: %v, %d", s, e)
		}
	}
	if read < 100 || read > 19900 {
		t.Errorf("%d were read", read)
	}
}

func TestMemory(t *testing.T) {
	s := mixed()
	b := image.Bytes(s)
	back, _ := image.Of(1, 3, b)
	for i := range b {
		b[i] = 0
	}
	if !state.Same(s, back) || !bytes.Equal(image.Bytes(s), plain(s)) {
		t.Error("memory is shared")
	}
}
