package codec

import (
	"bytes"

	"claviger/api"
)

// RightVault tells whether a vault may be written.
func RightVault(v api.Vault) bool {
	if v.Gen < 1 || v.Gen > api.MaxCount {
		return false
	}
	if v.Gone {
		return Same(v, api.Vault{ID: v.ID, Gen: v.Gen, Gone: true, Wiped: v.Wiped})
	}
	return !v.Wiped && rightLimit(v.Limit) && v.Used >= 0 && v.Used < v.Limit && rightSecret(v.Secret)
}

// RightRequest tells whether a request may be written.
func RightRequest(q api.Request) bool {
	if !rightSender(q.Client, q.Num) {
		return false
	}
	switch q.Op {
	case api.Escrow, api.Replace:
		return rightLimit(q.Limit) && rightSecret(q.Secret)
	case api.Recover:
		return q.Limit == 0 && q.Owner == api.Digest{} && len(q.Secret) == 0
	case api.Remove:
		return q.Limit == 0 && q.Pin == api.Digest{} && len(q.Secret) == 0
	}
	return false
}

// RightReply tells whether a reply may be written.
func RightReply(r api.Reply) bool {
	return r.Why >= 0 && r.Why <= 255 && r.Gen <= api.MaxCount && r.Left >= 0 && r.Left <= api.MaxLimit &&
		rightSender(r.Client, r.Num) && rightSecret(r.Secret)
}

// RightRecord tells whether a record may be written.
func RightRecord(r api.Record) bool {
	switch r.Kind {
	case api.Keep:
		return RightVault(r.Vault) && r.Shard == 0 && r.To == 0 && r.Epoch == 0 && len(r.Vaults) == 0
	case api.Out:
		return rightStep(r) && r.To >= 0 && r.To < api.MaxMembers && len(r.Vaults) == 0
	case api.In:
		return rightStep(r) && r.To == 0 && rightRow(r.Vaults)
	case api.Done:
		return rightStep(r) && r.To == 0 && len(r.Vaults) == 0
	}
	return false
}

// rightStep asks what the records of a shard's steps have in common.
func rightStep(r api.Record) bool {
	return r.Shard >= 0 && r.Shard < api.Shards && r.Epoch >= 1 && r.Epoch <= api.MaxCount && Same(r.Vault, api.Vault{})
}

func rightRow(l []api.Vault) bool {
	if len(l) > api.MaxVaults {
		return false
	}
	for i, v := range l {
		if !RightVault(v) || i > 0 && bytes.Compare(l[i-1].ID[:], v.ID[:]) >= 0 {
			return false
		}
	}
	return true
}

func rightLimit(n int) bool {
	return n >= 1 && n <= api.MaxLimit
}

func rightSecret(b []byte) bool {
	return len(b) <= api.MaxSecret
}

func rightSender(client int, num uint64) bool {
	return client >= 0 && client < api.MaxClients && num <= api.MaxCount
}
