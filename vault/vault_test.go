package vault_test

import (
	"bytes"
	"math"
	"math/rand"
	"testing"

	"claviger/api"
	"claviger/codec"
	"claviger/vault"
)

var (
	id    = api.ID{1, 2, 3, 4}
	right = api.Digest{1}
	wrong = api.Digest{2}
	mine  = api.Digest{3}
	other = api.Digest{4}
)

func kept(limit, used int) api.Vault {
	return api.Vault{ID: id, Gen: 7, Pin: right, Secret: []byte("secret"), Limit: limit, Used: used, Owner: mine}
}

func gone(gen uint64, wiped bool) api.Vault {
	return api.Vault{ID: id, Gen: gen, Gone: true, Wiped: wiped}
}

func escrow() api.Request {
	return api.Request{Op: api.Escrow, ID: id, Pin: wrong, Secret: []byte("new"), Limit: 9, Owner: other, Key: api.Digest{9}, Client: 2, Num: 55}
}

func recover1(pin api.Digest) api.Request {
	return api.Request{Op: api.Recover, ID: id, Pin: pin, Client: 2, Num: 55}
}

func replace(owner api.Digest) api.Request {
	q := escrow()
	q.Op, q.Owner = api.Replace, owner
	return q
}

func remove(owner api.Digest) api.Request {
	return api.Request{Op: api.Remove, ID: id, Owner: owner, Client: 2, Num: 55}
}

func sameReply(a, b api.Reply) bool {
	return a.Why == b.Why && a.ID == b.ID && a.Gen == b.Gen && a.Left == b.Left && a.Client == b.Client && a.Num == b.Num && bytes.Equal(a.Secret, b.Secret)
}

// asks does a request and holds what comes against what must come (the reply's ID, Client and Num are the request's).
func asks(t *testing.T, v api.Vault, q api.Request, want api.Vault, why api.Errno, left int, secret string, changed bool) {
	t.Helper()
	reply := api.Reply{Why: why, ID: q.ID, Gen: want.Gen, Left: left, Secret: []byte(secret), Client: q.Client, Num: q.Num}
	next, r, ch := vault.Do(v, q)
	if !codec.Same(next, want) || !sameReply(r, reply) || ch != changed {
		t.Errorf("Do(%+v, %+v):\n%+v, %+v, %v; must be\n%+v, %+v, %v", v, q, next, r, ch, want, reply, changed)
	}
}

// P11.1: each Op on each kind of vault.
func TestEscrow(t *testing.T) {
	made := func(gen uint64) api.Vault {
		return api.Vault{ID: id, Gen: gen, Pin: wrong, Secret: []byte("new"), Limit: 9, Owner: other}
	}
	asks(t, api.Vault{}, escrow(), made(1), api.OK, 9, "", true)
	asks(t, gone(7, false), escrow(), made(8), api.OK, 9, "", true)
	asks(t, gone(7, true), escrow(), made(8), api.OK, 9, "", true)
	asks(t, gone(api.MaxCount-1, true), escrow(), made(api.MaxCount), api.OK, 9, "", true)
	asks(t, gone(api.MaxCount, true), escrow(), gone(api.MaxCount, true), api.ErrOver, 0, "", false)
	asks(t, kept(5, 2), escrow(), kept(5, 2), api.ErrThere, 0, "", false)
	last := kept(5, 2)
	last.Gen = api.MaxCount
	asks(t, last, escrow(), last, api.ErrThere, 0, "", false)
	own := escrow()
	own.Pin, own.Owner = right, mine
	asks(t, kept(5, 2), own, kept(5, 2), api.ErrThere, 0, "", false)
	bare := escrow()
	bare.Secret, bare.Limit, bare.Pin, bare.Owner = nil, 1, api.Digest{}, api.Digest{}
	asks(t, api.Vault{}, bare, api.Vault{ID: id, Gen: 1, Limit: 1}, api.OK, 1, "", true)
}

func TestRecover(t *testing.T) {
	asks(t, api.Vault{}, recover1(right), api.Vault{}, api.ErrNone, 0, "", false)
	asks(t, gone(7, false), recover1(right), gone(7, false), api.ErrGone, 0, "", false)
	asks(t, gone(7, true), recover1(api.Digest{}), gone(7, true), api.ErrGone, 0, "", false)
	asks(t, kept(5, 0), recover1(right), kept(5, 0), api.OK, 5, "secret", false)
	asks(t, kept(5, 4), recover1(right), kept(5, 4), api.OK, 1, "secret", false)
	asks(t, kept(5, 0), recover1(wrong), kept(5, 1), api.ErrPin, 4, "", true)
	asks(t, kept(5, 3), recover1(wrong), kept(5, 4), api.ErrPin, 1, "", true)
	asks(t, kept(5, 4), recover1(wrong), gone(7, true), api.ErrPin, 0, "", true)
	asks(t, kept(1, 0), recover1(wrong), gone(7, true), api.ErrPin, 0, "", true)
	asks(t, kept(32, 30), recover1(wrong), kept(32, 31), api.ErrPin, 1, "", true)
	near := right
	near[15] = 1
	asks(t, kept(5, 0), recover1(near), kept(5, 1), api.ErrPin, 4, "", true)
	empty := kept(5, 0)
	empty.Secret = nil
	asks(t, empty, recover1(right), empty, api.OK, 5, "", false)
}

func TestReplace(t *testing.T) {
	made := api.Vault{ID: id, Gen: 8, Pin: wrong, Secret: []byte("new"), Limit: 9, Owner: mine}
	asks(t, api.Vault{}, replace(mine), api.Vault{}, api.ErrNone, 0, "", false)
	asks(t, gone(7, false), replace(mine), gone(7, false), api.ErrGone, 0, "", false)
	asks(t, gone(7, true), replace(api.Digest{}), gone(7, true), api.ErrGone, 0, "", false)
	asks(t, kept(5, 2), replace(other), kept(5, 2), api.ErrOwner, 0, "", false)
	asks(t, kept(5, 4), replace(mine), made, api.OK, 9, "", true)
	last := kept(5, 2)
	last.Gen = api.MaxCount
	asks(t, last, replace(mine), last, api.ErrOver, 0, "", false)
	asks(t, last, replace(other), last, api.ErrOwner, 0, "", false)
}

func TestRemove(t *testing.T) {
	asks(t, api.Vault{}, remove(mine), api.Vault{}, api.ErrNone, 0, "", false)
	asks(t, gone(7, true), remove(mine), gone(7, true), api.ErrGone, 0, "", false)
	asks(t, gone(7, false), remove(api.Digest{}), gone(7, false), api.ErrGone, 0, "", false)
	asks(t, kept(5, 2), remove(other), kept(5, 2), api.ErrOwner, 0, "", false)
	asks(t, kept(5, 2), remove(mine), gone(7, false), api.OK, 0, "", true)
	last := kept(5, 2)
	last.Gen = api.MaxCount
	asks(t, last, remove(mine), gone(api.MaxCount, false), api.OK, 0, "", true)
}

// P11.1, R3: beside ErrForm there is nothing of the request or the vault, in the reply neither.
func TestForms(t *testing.T) {
	refused := func(v api.Vault, q api.Request) {
		t.Helper()
		next, r, changed := vault.Do(v, q)
		if !codec.Same(next, api.Vault{}) || !sameReply(r, api.Reply{Why: api.ErrForm}) || changed {
			t.Errorf("Do(%+v, %+v): %+v, %+v, %v", v, q, next, r, changed)
		}
	}
	for _, change := range []func(q *api.Request){
		func(q *api.Request) { q.Op = 0 }, func(q *api.Request) { q.Op = 5 }, func(q *api.Request) { q.Limit = 0 },
		func(q *api.Request) { q.Limit = api.MaxLimit + 1 }, func(q *api.Request) { q.Secret = make([]byte, 65) },
		func(q *api.Request) { q.Client = -1 }, func(q *api.Request) { q.Client = 4 }, func(q *api.Request) { q.Num = math.MaxUint64 },
	} {
		q := escrow()
		change(&q)
		refused(api.Vault{}, q)
		refused(kept(5, 2), q)
		refused(gone(3, true), q)
	}
	bad := recover1(right)
	bad.Owner = mine
	refused(kept(5, 2), bad)
	for _, change := range []func(v *api.Vault){
		func(v *api.Vault) { v.ID[3]++ }, func(v *api.Vault) { v.Gen = 0 }, func(v *api.Vault) { v.Gen = api.MaxCount + 1 },
		func(v *api.Vault) { v.Used = v.Limit }, func(v *api.Vault) { v.Limit = 33 }, func(v *api.Vault) { v.Wiped = true },
		func(v *api.Vault) { v.Gone = true }, func(v *api.Vault) { v.Secret = make([]byte, 65) },
	} {
		v := kept(5, 2)
		change(&v)
		for _, q := range []api.Request{escrow(), recover1(right), recover1(wrong), replace(mine), remove(mine)} {
			refused(v, q)
		}
	}
	refused(api.Vault{ID: id}, escrow())
	refused(api.Vault{ID: id}, recover1(right))
	refused(api.Vault{ID: api.ID{1, 2}, Gen: 1, Limit: 3}, recover1(right))
	refused(api.Vault{Secret: []byte{0}}, escrow())
}

func TestMemory(t *testing.T) {
	q := escrow()
	room := []byte("new and more")
	q.Secret = room[:3]
	v, _, _ := vault.Do(api.Vault{}, q)
	room[0] = 'x'
	if string(v.Secret) != "new" {
		t.Error("Escrow keeps what was handed in")
	}
	was := kept(5, 0)
	next, r, _ := vault.Do(was, recover1(right))
	next.Secret[0] = 'x'
	r.Secret[1] = 'x'
	_ = append(next.Secret, 'y')
	if string(was.Secret) != "secret" || string(next.Secret) != "xecret" || string(r.Secret) != "sxcret" {
		t.Error("Recover's lists share memory")
	}
	for _, q := range []api.Request{recover1(wrong), escrow(), replace(other), remove(other)} {
		was = kept(5, 0)
		next, _, _ = vault.Do(was, q)
		next.Secret[0] = 'x'
		if string(was.Secret) != "secret" {
			t.Errorf("Op %d: the vault shares memory", q.Op)
		}
	}
}

// P11.2.
func TestLeft(t *testing.T) {
	for limit := 1; limit <= api.MaxLimit; limit++ {
		for used := range limit {
			if vault.Left(kept(limit, used)) != limit-used {
				t.Errorf("Left of %d less %d", limit, used)
			}
		}
		if vault.Left(kept(limit, limit)) != 0 || vault.Left(kept(limit, -1)) != 0 {
			t.Error("Left of one that may not be")
		}
	}
	wiped := kept(5, 1)
	wiped.Wiped = true
	long := kept(5, 1)
	long.Secret = make([]byte, 65)
	for _, v := range []api.Vault{{}, gone(7, true), gone(7, false), kept(33, 0), kept(0, -5), kept(math.MaxInt, math.MinInt), wiped, long, {ID: id, Limit: 5}, {Gen: 1, Limit: 5, Gone: true}} {
		if vault.Left(v) != 0 {
			t.Errorf("Left(%+v)", v)
		}
	}
}

// P11.3: of one Gen as many wrong PINs as its limit are told so, whatever else is asked; and no secret is told behind the last one.
func TestNoMoreGuesses(t *testing.T) {
	rnd := rand.New(rand.NewSource(11))
	for range 300 {
		v, limits, wrongs := api.Vault{}, map[uint64]int{}, map[uint64]int{}
		for range 200 {
			var q api.Request
			switch k := rnd.Intn(12); {
			case k == 0:
				q = escrow()
				q.Limit = 1 + rnd.Intn(6)
			case k == 1 && rnd.Intn(5) == 0:
				q = replace([]api.Digest{other, mine}[rnd.Intn(2)])
				q.Limit = 1 + rnd.Intn(6)
			case k == 2 && rnd.Intn(5) == 0:
				q = remove(other)
			default:
				q = recover1([]api.Digest{right, wrong}[rnd.Intn(2)])
			}
			var r api.Reply
			var changed bool
			v, r, changed = vault.Do(v, q)
			if !codec.Same(v, api.Vault{}) && !codec.RightVault(v) {
				t.Fatalf("a vault that may not be: %+v", v)
			}
			if r.Why == api.OK && q.Op != api.Recover && q.Op != api.Remove {
				limits[r.Gen] = q.Limit
			}
			if r.Why == api.ErrPin {
				if wrongs[r.Gen]++; wrongs[r.Gen] > limits[r.Gen] || r.Left != limits[r.Gen]-wrongs[r.Gen] || !changed {
					t.Fatalf("Gen %d: %d wrong ones of %d, left %d", r.Gen, wrongs[r.Gen], limits[r.Gen], r.Left)
				}
			}
			if len(r.Secret) > 0 && wrongs[r.Gen] >= limits[r.Gen] {
				t.Fatalf("Gen %d: a secret behind the last guess", r.Gen)
			}
			if q.Op == api.Recover && wrongs[v.Gen] == limits[v.Gen] && limits[v.Gen] > 0 && !(v.Gone && v.Wiped) {
				t.Fatalf("Gen %d: not wiped", v.Gen)
			}
		}
	}
}
