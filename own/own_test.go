package own_test

import (
	"bytes"
	"testing"

	"claviger/api"
	"claviger/own"
)

func TestCopies(t *testing.T) {
	room := []byte("abc and more")
	b := room[:3]
	l := []api.Vault{{Gen: 1, Secret: b}, {Gen: 2, Secret: b}}
	all := own.Vaults(l)
	lists := [][]byte{
		own.Vault(l[0]).Secret, all[0].Secret, all[1].Secret,
		own.Request(api.Request{Secret: b}).Secret, own.Reply(api.Reply{Secret: b}).Secret, own.Letter(api.Letter{Bytes: b}).Bytes,
	}
	for i, x := range lists {
		if string(x) != "abc" {
			t.Errorf("list %d: %q", i, x)
		}
		x[0] = 'x'
		_ = append(x, 'y')
	}
	all[0].Gen = 9
	if string(room) != "abc and more" || l[0].Gen != 1 || len(all) != 2 || all[1].Gen != 2 {
		t.Error("memory is shared")
	}
	for _, x := range lists {
		if !bytes.Equal(x, []byte("xbc")) {
			t.Error("two copies share memory")
		}
	}
}

func TestAllElseStays(t *testing.T) {
	v := own.Vault(api.Vault{ID: api.ID{1}, Gen: 2, Pin: api.Digest{3}, Limit: 4, Used: 5, Owner: api.Digest{6}, Gone: true, Wiped: true})
	q := own.Request(api.Request{Op: 1, Client: 2, Num: 3})
	r := own.Reply(api.Reply{Why: 1, Gen: 2, Num: 3})
	l := own.Letter(api.Letter{Kind: 1, From: 2, To: 3})
	if v.ID != (api.ID{1}) || v.Gen != 2 || v.Pin != (api.Digest{3}) || v.Limit != 4 || v.Used != 5 || v.Owner != (api.Digest{6}) || !v.Gone || !v.Wiped ||
		q.Op != 1 || q.Client != 2 || q.Num != 3 || r.Why != 1 || r.Gen != 2 || r.Num != 3 || l.Kind != 1 || l.From != 2 || l.To != 3 || len(own.Vaults(nil)) != 0 {
		t.Error("a field is lost")
	}
}
