// Package own makes values that share no memory with those that they are made of.
package own

import (
	"bytes"

	"claviger/api"
)

// Vault is a vault with a secret of its own.
func Vault(v api.Vault) api.Vault {
	v.Secret = bytes.Clone(v.Secret)
	return v
}

// Vaults are vaults with secrets of their own.
func Vaults(l []api.Vault) []api.Vault {
	var out []api.Vault
	for _, v := range l {
		out = append(out, Vault(v))
	}
	return out
}

// Request is a request with a secret of its own.
func Request(q api.Request) api.Request {
	q.Secret = bytes.Clone(q.Secret)
	return q
}

// Reply is a reply with a secret of its own.
func Reply(r api.Reply) api.Reply {
	r.Secret = bytes.Clone(r.Secret)
	return r
}

// Letter is a letter with bytes of its own.
func Letter(l api.Letter) api.Letter {
	l.Bytes = bytes.Clone(l.Bytes)
	return l
}
