package codec

import (
	"claviger/api"
	"claviger/blend"
)

// The flags of a vault.
const (
	gone  = 1
	wiped = 2
)

func putVault(b []byte, v api.Vault) []byte {
	flags := byte(0)
	if v.Gone {
		flags |= gone
	}
	if v.Wiped {
		flags |= wiped
	}
	b = append(b, v.ID[:]...)
	b = append(b, blend.Number(v.Gen)...)
	b = append(b, flags, byte(v.Limit), byte(v.Used))
	b = append(b, v.Pin[:]...)
	b = append(b, v.Owner[:]...)
	return putSecret(b, v.Secret)
}

func putRequest(b []byte, q api.Request) []byte {
	b = append(b, byte(q.Op))
	b = append(b, q.ID[:]...)
	b = append(b, q.Pin[:]...)
	b = append(b, byte(q.Limit))
	b = append(b, q.Owner[:]...)
	b = append(b, q.Key[:]...)
	b = append(b, byte(q.Client))
	b = append(b, blend.Number(q.Num)...)
	return putSecret(b, q.Secret)
}

func putReply(b []byte, r api.Reply) []byte {
	b = append(b, byte(r.Why))
	b = append(b, r.ID[:]...)
	b = append(b, blend.Number(r.Gen)...)
	b = append(b, byte(r.Left), byte(r.Client))
	b = append(b, blend.Number(r.Num)...)
	return putSecret(b, r.Secret)
}

func putRecord(b []byte, r api.Record) []byte {
	b = append(b, byte(r.Kind))
	if r.Kind == api.Keep {
		return putVault(b, r.Vault)
	}
	b = append(b, byte(r.Shard))
	if r.Kind == api.Out {
		b = append(b, byte(r.To))
	}
	b = append(b, blend.Number(r.Epoch)...)
	if r.Kind == api.In {
		b = append(b, byte(len(r.Vaults)))
		for _, v := range r.Vaults {
			b = putVault(b, v)
		}
	}
	return b
}

func putSecret(b, secret []byte) []byte {
	b = append(b, byte(len(secret)))
	return append(b, secret...)
}
