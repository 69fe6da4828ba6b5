package codec

import (
	"claviger/api"
	"claviger/number"
)

// reader goes through bytes; once something is wrong it stays so, and what it tells then means nothing.
type reader struct {
	b     []byte
	at    int
	wrong bool
}

// whole tells whether all went well and nothing is left.
func (r *reader) whole() bool {
	return !r.wrong && r.at == len(r.b)
}

func (r *reader) take(n int) []byte {
	if r.wrong || len(r.b)-r.at < n {
		r.wrong = true
		return nil
	}
	r.at += n
	return r.b[r.at-n : r.at]
}

func (r *reader) small() int {
	return int(number.Of(r.take(1)))
}

func (r *reader) number() uint64 {
	return number.Of(r.take(8))
}

func (r *reader) id() (id api.ID) {
	copy(id[:], r.take(len(id)))
	return id
}

func (r *reader) digest() (d api.Digest) {
	copy(d[:], r.take(len(d)))
	return d
}

func (r *reader) secret() []byte {
	return append([]byte(nil), r.take(r.small())...)
}

func (r *reader) vault() api.Vault {
	v := api.Vault{ID: r.id(), Gen: r.number()}
	flags := r.small()
	v.Gone, v.Wiped = flags&gone != 0, flags&wiped != 0
	if flags > gone|wiped {
		r.wrong = true
	}
	v.Limit = r.small()
	v.Used = r.small()
	v.Pin = r.digest()
	v.Owner = r.digest()
	v.Secret = r.secret()
	return v
}

func (r *reader) request() (q api.Request) {
	q.Op = r.small()
	q.ID = r.id()
	q.Pin = r.digest()
	q.Limit = r.small()
	q.Owner = r.digest()
	q.Key = r.digest()
	q.Client = r.small()
	q.Num = r.number()
	q.Secret = r.secret()
	return q
}

func (r *reader) reply() (y api.Reply) {
	y.Why = api.Errno(r.small())
	y.ID = r.id()
	y.Gen = r.number()
	y.Left = r.small()
	y.Client = r.small()
	y.Num = r.number()
	y.Secret = r.secret()
	return y
}

func (r *reader) record() (y api.Record) {
	y.Kind = r.small()
	if y.Kind == api.Keep {
		y.Vault = r.vault()
		return y
	}
	y.Shard = r.small()
	if y.Kind == api.Out {
		y.To = r.small()
	}
	y.Epoch = r.number()
	if y.Kind == api.In {
		for range r.small() {
			y.Vaults = append(y.Vaults, r.vault())
		}
	}
	return y
}
