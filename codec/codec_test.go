package codec_test

import (
	"bytes"
	"encoding/binary"
	"math"
	"math/rand"
	"slices"
	"testing"

	"claviger/api"
	"claviger/codec"
)

func digest(first byte) (d api.Digest) {
	for i := range d {
		d[i] = first + byte(i)
	}
	return d
}

func secret(n int) []byte { return bytes.Repeat([]byte{0xa5}, n) }

func kept() api.Vault {
	return api.Vault{ID: api.ID{1, 2, 3, 4}, Gen: 0x0102, Pin: digest(1), Secret: []byte("abc"), Limit: 5, Used: 2, Owner: digest(50)}
}

func escrow() api.Request {
	return api.Request{Op: api.Escrow, ID: api.ID{1, 2, 3, 4}, Pin: digest(1), Secret: []byte("abc"), Limit: 5, Owner: digest(50), Key: digest(90), Client: 3, Num: 0x0a0b}
}

func told() api.Reply {
	return api.Reply{Why: api.ErrPin, ID: api.ID{1, 2, 3, 4}, Gen: 0x0102, Left: 7, Secret: []byte("abc"), Client: 3, Num: 0x0a0b}
}

// The plain writings of P6.1 and P6.2, apart from the program's.

func number(n uint64) []byte { return binary.BigEndian.AppendUint64(nil, n) }

func plainVault(v api.Vault) []byte {
	flags := map[[2]bool]byte{{false, false}: 0, {true, false}: 1, {true, true}: 3, {false, true}: 2}[[2]bool{v.Gone, v.Wiped}]
	return slices.Concat(v.ID[:], number(v.Gen), []byte{flags, byte(v.Limit), byte(v.Used)}, v.Pin[:], v.Owner[:], []byte{byte(len(v.Secret))}, v.Secret)
}

func plainRequest(q api.Request) []byte {
	return slices.Concat([]byte{byte(q.Op)}, q.ID[:], q.Pin[:], []byte{byte(q.Limit)}, q.Owner[:], q.Key[:], []byte{byte(q.Client)}, number(q.Num), []byte{byte(len(q.Secret))}, q.Secret)
}

func plainReply(r api.Reply) []byte {
	return slices.Concat([]byte{byte(r.Why)}, r.ID[:], number(r.Gen), []byte{byte(r.Left), byte(r.Client)}, number(r.Num), []byte{byte(len(r.Secret))}, r.Secret)
}

func plainRecord(r api.Record) []byte {
	switch r.Kind {
	case api.Keep:
		return append([]byte{1}, plainVault(r.Vault)...)
	case api.Out:
		return append([]byte{2, byte(r.Shard), byte(r.To)}, number(r.Epoch)...)
	case api.In:
		b := append(append([]byte{3, byte(r.Shard)}, number(r.Epoch)...), byte(len(r.Vaults)))
		for _, v := range r.Vaults {
			b = append(b, plainVault(v)...)
		}
		return b
	}
	return append([]byte{byte(r.Kind), byte(r.Shard)}, number(r.Epoch)...)
}

func sameRequest(a, b api.Request) bool {
	s, t := a.Secret, b.Secret
	return a.Op == b.Op && a.ID == b.ID && a.Pin == b.Pin && a.Limit == b.Limit && a.Owner == b.Owner && a.Key == b.Key && a.Client == b.Client && a.Num == b.Num && bytes.Equal(s, t)
}

func sameReply(a, b api.Reply) bool {
	return a.Why == b.Why && a.ID == b.ID && a.Gen == b.Gen && a.Left == b.Left && a.Client == b.Client && a.Num == b.Num && bytes.Equal(a.Secret, b.Secret)
}

func sameVault(a, b api.Vault) bool {
	return a.ID == b.ID && a.Gen == b.Gen && a.Pin == b.Pin && a.Limit == b.Limit && a.Used == b.Used && a.Owner == b.Owner && a.Gone == b.Gone && a.Wiped == b.Wiped && bytes.Equal(a.Secret, b.Secret)
}

func sameRecord(a, b api.Record) bool {
	return a.Kind == b.Kind && a.Shard == b.Shard && a.To == b.To && a.Epoch == b.Epoch && sameVault(a.Vault, b.Vault) && slices.EqualFunc(a.Vaults, b.Vaults, sameVault)
}

// checkVault, checkRequest, checkReply, checkRecord ask all that P6.1 to P6.4 say of one value.

func checkVault(t *testing.T, v api.Vault, right bool) {
	t.Helper()
	if codec.RightVault(v) != right {
		t.Errorf("RightVault(%+v): %v", v, !right)
	}
	b, e := codec.Vault(v)
	if !right {
		if e != api.ErrArg || len(b) != 0 {
			t.Errorf("Vault(%+v): %x, %d", v, b, e)
		}
		if back, n, e := codec.ToVault(plainVault(v)); e == api.OK && sameVault(back, v) || e != api.OK && (e != api.ErrForm || n != 0 || !sameVault(back, api.Vault{})) {
			t.Errorf("ToVault of a wrong one, %+v: %+v, %d, %d", v, back, n, e)
		}
		return
	}
	if e != api.OK || !bytes.Equal(b, plainVault(v)) {
		t.Fatalf("Vault(%+v): %x, %d", v, b, e)
	}
	for _, behind := range []int{0, 1, 200} {
		back, n, e := codec.ToVault(append(bytes.Clone(b), make([]byte, behind)...))
		if e != api.OK || n != len(b) || !sameVault(back, v) {
			t.Errorf("ToVault(%x and %d): %+v, %d, %d", b, behind, back, n, e)
		}
	}
	for i := range b {
		if back, n, e := codec.ToVault(b[:i]); e != api.ErrForm || n != 0 || !sameVault(back, api.Vault{}) {
			t.Errorf("ToVault of %d of %d: %+v, %d, %d", i, len(b), back, n, e)
		}
	}
}

func checkRequest(t *testing.T, q api.Request, right bool) {
	t.Helper()
	if codec.RightRequest(q) != right {
		t.Errorf("RightRequest(%+v): %v", q, !right)
	}
	b, e := codec.Request(q)
	if !right {
		if e != api.ErrArg || len(b) != 0 {
			t.Errorf("Request(%+v): %x, %d", q, b, e)
		}
		if back, e := codec.ToRequest(plainRequest(q)); e == api.OK && sameRequest(back, q) || e != api.OK && (e != api.ErrForm || !sameRequest(back, api.Request{})) {
			t.Errorf("ToRequest of a wrong one, %+v: %+v, %d", q, back, e)
		}
		return
	}
	if e != api.OK || !bytes.Equal(b, plainRequest(q)) {
		t.Fatalf("Request(%+v): %x, %d", q, b, e)
	}
	if back, e := codec.ToRequest(b); e != api.OK || !sameRequest(back, q) {
		t.Errorf("ToRequest(%x): %+v, %d", b, back, e)
	}
	for i := range b {
		if back, e := codec.ToRequest(b[:i]); e != api.ErrForm || !sameRequest(back, api.Request{}) {
			t.Errorf("ToRequest of %d of %d: %+v, %d", i, len(b), back, e)
		}
	}
	if back, e := codec.ToRequest(append(bytes.Clone(b), 0)); e != api.ErrForm || !sameRequest(back, api.Request{}) {
		t.Errorf("ToRequest of a byte more: %+v, %d", back, e)
	}
}

func checkReply(t *testing.T, r api.Reply, right bool) {
	t.Helper()
	if codec.RightReply(r) != right {
		t.Errorf("RightReply(%+v): %v", r, !right)
	}
	b, e := codec.Reply(r)
	if !right {
		if e != api.ErrArg || len(b) != 0 {
			t.Errorf("Reply(%+v): %x, %d", r, b, e)
		}
		if back, e := codec.ToReply(plainReply(r)); e == api.OK && sameReply(back, r) || e != api.OK && (e != api.ErrForm || !sameReply(back, api.Reply{})) {
			t.Errorf("ToReply of a wrong one, %+v: %+v, %d", r, back, e)
		}
		return
	}
	if e != api.OK || !bytes.Equal(b, plainReply(r)) {
		t.Fatalf("Reply(%+v): %x, %d", r, b, e)
	}
	if back, e := codec.ToReply(b); e != api.OK || !sameReply(back, r) {
		t.Errorf("ToReply(%x): %+v, %d", b, back, e)
	}
	for i := range b {
		if back, e := codec.ToReply(b[:i]); e != api.ErrForm || !sameReply(back, api.Reply{}) {
			t.Errorf("ToReply of %d of %d: %+v, %d", i, len(b), back, e)
		}
	}
	if back, e := codec.ToReply(append(bytes.Clone(b), 0)); e != api.ErrForm || !sameReply(back, api.Reply{}) {
		t.Errorf("ToReply of a byte more: %+v, %d", back, e)
	}
}

func checkRecord(t *testing.T, r api.Record, right bool) {
	t.Helper()
	if codec.RightRecord(r) != right {
		t.Errorf("RightRecord(%+v): %v", r, !right)
	}
	b, e := codec.Record(r)
	if !right {
		if e != api.ErrArg || len(b) != 0 {
			t.Errorf("Record(%+v): %x, %d", r, b, e)
		}
		if back, e := codec.ToRecord(plainRecord(r)); e == api.OK && sameRecord(back, r) || e != api.OK && (e != api.ErrForm || !sameRecord(back, api.Record{})) {
			t.Errorf("ToRecord of a wrong one, %+v: %+v, %d", r, back, e)
		}
		return
	}
	if e != api.OK || !bytes.Equal(b, plainRecord(r)) {
		t.Fatalf("Record(%+v): %x, %d", r, b, e)
	}
	if back, e := codec.ToRecord(b); e != api.OK || !sameRecord(back, r) {
		t.Errorf("ToRecord(%x): %+v, %d", b, back, e)
	}
	for i := range b {
		if back, e := codec.ToRecord(b[:i]); e != api.ErrForm || !sameRecord(back, api.Record{}) {
			t.Errorf("ToRecord of %d of %d: %+v, %d", i, len(b), back, e)
		}
	}
	if back, e := codec.ToRecord(append(bytes.Clone(b), 0)); e != api.ErrForm || !sameRecord(back, api.Record{}) {
		t.Errorf("ToRecord of a byte more: %+v, %d", back, e)
	}
}

func TestVaults(t *testing.T) {
	with := func(right bool, change func(v *api.Vault)) {
		t.Helper()
		v := kept()
		change(&v)
		checkVault(t, v, right)
	}
	for _, gen := range []uint64{1, 2, 255, 256, api.MaxCount} {
		with(true, func(v *api.Vault) { v.Gen = gen })
	}
	for _, gen := range []uint64{0, api.MaxCount + 1, 1 << 63, math.MaxUint64} {
		with(false, func(v *api.Vault) { v.Gen = gen })
		checkVault(t, api.Vault{Gen: gen, Gone: true}, false)
	}
	with(true, func(v *api.Vault) { v.Limit, v.Used = 1, 0 })
	with(true, func(v *api.Vault) { v.Limit, v.Used = api.MaxLimit, api.MaxLimit-1 })
	for _, c := range [][2]int{{0, 0}, {-1, -2}, {1, 1}, {5, 5}, {5, 6}, {5, -1}, {api.MaxLimit + 1, 0}, {256 + 5, 0}, {5, 256}, {-251, 0}, {math.MaxInt, 0}, {math.MinInt, math.MinInt}} {
		with(false, func(v *api.Vault) { v.Limit, v.Used = c[0], c[1] })
	}
	for _, n := range []int{0, 1, api.MaxSecret} {
		with(true, func(v *api.Vault) { v.Secret = secret(n) })
	}
	for _, n := range []int{api.MaxSecret + 1, 255, 256, 256 + 3, 10000} {
		with(false, func(v *api.Vault) { v.Secret = secret(n) })
	}
	with(true, func(v *api.Vault) { v.ID, v.Pin, v.Owner, v.Secret = api.ID{}, api.Digest{}, api.Digest{}, nil })
	with(false, func(v *api.Vault) { v.Wiped = true })
	with(false, func(v *api.Vault) { v.Gone = true })
	for _, wiped := range []bool{false, true} {
		gone := api.Vault{ID: api.ID{9, 8, 7, 6}, Gen: 12, Gone: true, Wiped: wiped}
		checkVault(t, gone, true)
		for _, change := range []func(v *api.Vault){
			func(v *api.Vault) { v.Pin[15] = 1 },
			func(v *api.Vault) { v.Owner[0] = 1 },
			func(v *api.Vault) { v.Secret = []byte{0} },
			func(v *api.Vault) { v.Limit = 1 },
			func(v *api.Vault) { v.Limit = -1 },
			func(v *api.Vault) { v.Used = 1 },
		} {
			v := gone
			change(&v)
			checkVault(t, v, false)
		}
		gone.Secret = []byte{}
		checkVault(t, gone, true)
	}
	checkVault(t, api.Vault{}, false)
	b := plainVault(kept())
	for flags := range 256 {
		b[12] = byte(flags)
		if _, _, e := codec.ToVault(b); (e == api.OK) != (flags == 0) {
			t.Errorf("flags %d: %d", flags, e)
		}
	}
	b = plainVault(api.Vault{Gen: 1, Gone: true})
	for flags := range 256 {
		b[12] = byte(flags)
		if _, _, e := codec.ToVault(b); (e == api.OK) != (flags == 1 || flags == 3) {
			t.Errorf("flags %d of one that is gone: %d", flags, e)
		}
	}
}

func TestRequests(t *testing.T) {
	with := func(op int, right bool, change func(q *api.Request)) {
		t.Helper()
		q := escrow()
		q.Op = op
		if op == api.Recover || op == api.Remove {
			q.Limit, q.Secret = 0, nil
		}
		if op == api.Recover {
			q.Owner = api.Digest{}
		}
		if op == api.Remove {
			q.Pin = api.Digest{}
		}
		change(&q)
		checkRequest(t, q, right)
	}
	for op := api.Escrow; op <= api.Remove; op++ {
		with(op, true, func(q *api.Request) {})
		with(op, true, func(q *api.Request) { q.Client, q.Num = 0, 0 })
		with(op, true, func(q *api.Request) { q.Num = api.MaxCount })
		with(op, true, func(q *api.Request) { q.Secret = []byte{} })
		with(op, true, func(q *api.Request) { q.ID, q.Key, q.Owner, q.Pin = api.ID{}, api.Digest{}, api.Digest{}, api.Digest{} })
		for _, client := range []int{-1, api.MaxClients, 255, 256, 259, math.MinInt, math.MaxInt} {
			with(op, false, func(q *api.Request) { q.Client = client })
		}
		for _, num := range []uint64{api.MaxCount + 1, math.MaxUint64} {
			with(op, false, func(q *api.Request) { q.Num = num })
		}
		keeps := op == api.Escrow || op == api.Replace
		with(op, keeps, func(q *api.Request) { q.Secret = []byte{0} })
		with(op, keeps, func(q *api.Request) { q.Secret = secret(api.MaxSecret) })
		with(op, false, func(q *api.Request) { q.Secret = secret(api.MaxSecret + 1) })
		with(op, false, func(q *api.Request) { q.Secret = secret(256) })
		with(op, keeps, func(q *api.Request) { q.Limit = 1 })
		with(op, keeps, func(q *api.Request) { q.Limit = api.MaxLimit })
		with(op, !keeps, func(q *api.Request) { q.Limit = 0 })
		for _, limit := range []int{-1, api.MaxLimit + 1, 256, 257, math.MaxInt, math.MinInt} {
			with(op, false, func(q *api.Request) { q.Limit = limit })
		}
		with(op, op != api.Recover, func(q *api.Request) { q.Owner[15] = 1 })
		with(op, op != api.Remove, func(q *api.Request) { q.Pin[15] = 1 })
	}
	for _, op := range []int{0, 5, -1, 255, 257, math.MaxInt, math.MinInt} {
		with(op, false, func(q *api.Request) {})
		with(op, false, func(q *api.Request) { q.Limit, q.Secret, q.Owner, q.Pin = 0, nil, api.Digest{}, api.Digest{} })
	}
}

func TestReplies(t *testing.T) {
	with := func(right bool, change func(r *api.Reply)) {
		t.Helper()
		r := told()
		change(&r)
		checkReply(t, r, right)
	}
	with(true, func(r *api.Reply) {})
	checkReply(t, api.Reply{}, true)
	for why, right := range map[api.Errno]bool{0: true, 1: true, 2: true, 255: true, 256: false, -1: false, 1000: false, math.MinInt: false} {
		with(right, func(r *api.Reply) { r.Why = why })
	}
	for gen, right := range map[uint64]bool{0: true, 1: true, api.MaxCount: true, api.MaxCount + 1: false, math.MaxUint64: false} {
		with(right, func(r *api.Reply) { r.Gen = gen })
		with(right, func(r *api.Reply) { r.Num = gen })
	}
	for left, right := range map[int]bool{0: true, api.MaxLimit: true, api.MaxLimit + 1: false, -1: false, 256: false, math.MaxInt: false} {
		with(right, func(r *api.Reply) { r.Left = left })
	}
	for client, right := range map[int]bool{0: true, api.MaxClients - 1: true, api.MaxClients: false, -1: false, 256: false} {
		with(right, func(r *api.Reply) { r.Client = client })
	}
	for n, right := range map[int]bool{0: true, 1: true, api.MaxSecret: true, api.MaxSecret + 1: false, 256: false} {
		with(right, func(r *api.Reply) { r.Secret = secret(n) })
	}
	if _, e := codec.ToReply(nil); e != api.ErrForm {
		t.Errorf("ToReply of nothing: %d", e)
	}
}

func row(ids ...byte) (l []api.Vault) {
	for _, id := range ids {
		v := kept()
		v.ID[0] = id
		l = append(l, v)
	}
	return l
}

func TestRecords(t *testing.T) {
	gone := api.Vault{ID: api.ID{200, 0, 0, 1}, Gen: 3, Gone: true, Wiped: true}
	bases := []api.Record{
		{Kind: api.Keep, Vault: kept()},
		{Kind: api.Keep, Vault: gone},
		{Kind: api.Out, Shard: 15, To: 7, Epoch: 0x0102},
		{Kind: api.In, Shard: 15, Epoch: 0x0102},
		{Kind: api.In, Shard: 15, Epoch: 0x0102, Vaults: append(row(1, 2, 3), gone)},
		{Kind: api.Done, Shard: 15, Epoch: 0x0102},
	}
	for _, base := range bases {
		with := func(right bool, change func(r *api.Record)) {
			t.Helper()
			r := base
			r.Vaults = slices.Clone(base.Vaults)
			change(&r)
			checkRecord(t, r, right)
		}
		has := base.Kind != api.Keep
		with(true, func(r *api.Record) {})
		with(true, func(r *api.Record) { r.Vaults = r.Vaults[:len(r.Vaults):len(r.Vaults)] })
		with(has, func(r *api.Record) { r.Shard, r.Epoch = 0, 1 })
		with(has, func(r *api.Record) { r.Epoch = api.MaxCount })
		with(has, func(r *api.Record) { r.Shard = 3 })
		with(!has, func(r *api.Record) { r.Epoch = 0 })
		with(false, func(r *api.Record) { r.Epoch = api.MaxCount + 1 })
		with(false, func(r *api.Record) { r.Epoch = math.MaxUint64 })
		for _, n := range []int{-1, api.Shards, 256, math.MaxInt, math.MinInt} {
			with(false, func(r *api.Record) { r.Shard = n })
			with(false, func(r *api.Record) { r.To = n })
		}
		with(false, func(r *api.Record) { r.To = api.MaxMembers })
		with(base.Kind == api.Out, func(r *api.Record) { r.To = 3 })
		with(true, func(r *api.Record) { r.To = 0 })
		with(!has, func(r *api.Record) { r.Vault = kept() })
		with(false, func(r *api.Record) { r.Vault = api.Vault{Secret: []byte{0}} })
		with(base.Kind == api.In, func(r *api.Record) { r.Vaults = row(1) })
		with(base.Kind == api.In, func(r *api.Record) { r.Vaults = row(0, 100, 200, 255) })
		with(false, func(r *api.Record) { r.Vaults = row(1, 2, 3, 4, 5) })
		with(false, func(r *api.Record) { r.Vaults = row(1, 1) })
		with(false, func(r *api.Record) { r.Vaults = row(2, 1) })
		with(false, func(r *api.Record) { r.Vaults = row(1, 3, 2) })
		with(false, func(r *api.Record) { r.Vaults = []api.Vault{{}} })
		with(false, func(r *api.Record) { r.Vaults = append(row(1), api.Vault{ID: api.ID{2}, Gen: 1}) })
		for _, kind := range []int{0, 5, -1, 257, math.MaxInt} {
			with(false, func(r *api.Record) { r.Kind = kind })
		}
	}
	last := row(1, 1)
	last[1].ID[3]++
	checkRecord(t, api.Record{Kind: api.In, Epoch: 1, Vaults: last}, true)
	checkRecord(t, api.Record{Kind: api.Keep}, false)
	checkRecord(t, api.Record{}, false)
	checkRecord(t, api.Record{Kind: 9}, false)
	if _, e := codec.ToRecord(nil); e != api.ErrForm {
		t.Errorf("ToRecord of nothing: %d", e)
	}
}

func TestSame(t *testing.T) {
	a := kept()
	if b := kept(); !codec.Same(a, b) || !codec.Same(api.Vault{}, api.Vault{Secret: []byte{}}) {
		t.Error("Same of two that are")
	}
	for i, change := range []func(v *api.Vault){
		func(v *api.Vault) { v.ID[3]++ }, func(v *api.Vault) { v.Gen++ }, func(v *api.Vault) { v.Pin[15]++ },
		func(v *api.Vault) { v.Secret = []byte("abd") }, func(v *api.Vault) { v.Secret = []byte("ab") }, func(v *api.Vault) { v.Secret = nil },
		func(v *api.Vault) { v.Limit++ }, func(v *api.Vault) { v.Used++ }, func(v *api.Vault) { v.Owner[15]++ },
		func(v *api.Vault) { v.Gone = true }, func(v *api.Vault) { v.Wiped = true },
	} {
		b := kept()
		change(&b)
		if codec.Same(a, b) || codec.Same(b, a) {
			t.Errorf("Same, change %d", i)
		}
	}
}

// R2: nothing handed in is changed or kept, and no answer is seen elsewhere.
func TestMemory(t *testing.T) {
	v := kept()
	room := []byte("abc and more")
	v.Secret = room[:3]
	b, _ := codec.Vault(v)
	back, _, _ := codec.ToVault(b)
	b[len(b)-1] = 'x'
	if string(back.Secret) != "abc" || string(room) != "abc and more" {
		t.Error("ToVault shares its bytes")
	}
	l := row(1, 2)
	rb, _ := codec.Record(api.Record{Kind: api.In, Epoch: 1, Vaults: l})
	rec, _ := codec.ToRecord(rb)
	for i := range rb {
		rb[i] = 0
	}
	rec.Vaults[0].Secret[0] = 'z'
	if string(rec.Vaults[1].Secret) != "abc" || string(l[0].Secret) != "abc" {
		t.Error("two lists of a record share memory")
	}
	_ = append(rec.Vaults[0].Secret, "yyyyyyyy"...)
	if string(rec.Vaults[1].Secret) != "abc" {
		t.Error("spare room is shared")
	}
}

// P6.3, P6.4: of any bytes, what is read is written as just those.
func TestAnyBytes(t *testing.T) {
	q := rand.New(rand.NewSource(6))
	seeds := [][]byte{plainVault(kept()), plainRequest(escrow()), plainReply(told()), plainRecord(api.Record{Kind: api.In, Shard: 3, Epoch: 4, Vaults: row(1, 2)}), plainRecord(api.Record{Kind: api.Keep, Vault: kept()}), plainRecord(api.Record{Kind: api.Out, Shard: 1, To: 2, Epoch: 3})}
	read := 0
	for range 60000 {
		b := bytes.Clone(seeds[q.Intn(len(seeds))])
		for range q.Intn(3) {
			b[q.Intn(len(b))] = byte(q.Intn(256))
		}
		if v, n, e := codec.ToVault(b); e == api.OK {
			w, _ := codec.Vault(v)
			if read++; !bytes.Equal(w, b[:n]) {
				t.Fatalf("a vault of %x", b)
			}
		}
		if v, e := codec.ToRequest(b); e == api.OK {
			w, _ := codec.Request(v)
			if read++; !bytes.Equal(w, b) {
				t.Fatalf("a request of %x", b)
			}
		}
		if v, e := codec.ToReply(b); e == api.OK {
			w, _ := codec.Reply(v)
			if read++; !bytes.Equal(w, b) {
				t.Fatalf("a reply of %x", b)
			}
		}
		if v, e := codec.ToRecord(b); e == api.OK {
			w, _ := codec.Record(v)
			if read++; !bytes.Equal(w, b) {
				t.Fatalf("a record of %x", b)
			}
		}
	}
	if read < 10000 {
		t.Errorf("only %d were read", read)
	}
}
