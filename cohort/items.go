package cohort

import (
	"claviger/api"
	"claviger/client"
	"claviger/device"
	"claviger/handoff"
	"claviger/shard"
)

// mostSettled is how many letters one Settle delivers at most.
const mostSettled = 512

func (w *World) send(x api.Item, pin, owner string) api.Errno {
	c := w.clients[x.Client]
	q := x.Request
	wish := client.Wish{Op: q.Op, ID: q.ID, Pin: pin, Secret: q.Secret, Limit: q.Limit, Owner: owner}
	// What is refused takes no number of the client's, so a full office is seen ahead of Make.
	if w.office.Len() >= api.MaxNet {
		if _, e := client.Request(x.Client, c.Asked(), w.key, wish); e != api.OK {
			return e
		}
		return api.ErrFull
	}
	b, _, e := c.Make(x.Member, wish)
	if e != api.OK {
		return e
	}
	w.office.Put(api.Letter{Kind: api.Ask, From: x.Client, To: x.Member, Bytes: b})
	return api.OK
}

func (w *World) stop(member int) api.Errno {
	d := w.members[member]
	if d.Is() != api.Up {
		return api.ErrDown
	}
	d.Stop()
	return api.OK
}

func (w *World) swap(member int) api.Errno {
	if w.aside[member] == nil {
		return api.ErrNone
	}
	return unless(w.members[member].Swap(w.aside[member]), api.ErrThere)
}

func (w *World) spoil(x api.Item) api.Errno {
	d := w.members[x.Member]
	if d.Is() == api.Up {
		return api.ErrThere
	}
	return unless(d.Turn(x.N, x.Torn), api.ErrNone)
}

// move hands a shard off; should its parcel be lost, it is sent anew by again.
func (w *World) move(x api.Item) api.Errno {
	d := w.members[x.Member]
	if e := away(d); e != api.OK {
		return e
	}
	if !shard.Right(x.Shard) {
		return api.ErrShard
	}
	_, epoch, _ := d.View().Role(x.Shard)
	if e := d.Do(api.Record{Kind: api.Out, Shard: x.Shard, To: x.To, Epoch: epoch + 1}); e != api.OK {
		return e
	}
	w.sendParcel(d, x.Shard)
	return api.OK
}

func (w *World) again(member int) (int, api.Errno) {
	d := w.members[member]
	if e := away(d); e != api.OK {
		return 0, e
	}
	n := 0
	for _, lent := range d.View().Lent() {
		if w.sendParcel(d, lent) {
			n++
		}
	}
	return n, api.OK
}

func (w *World) settle() int {
	n := 0
	for n < mostSettled {
		first := w.office.First()
		if first < 0 {
			break
		}
		w.deliver(first)
		n++
	}
	return n
}

// sendParcel puts the parcel of a shard that a member has lent; it tells whether there was room.
func (w *World) sendParcel(d *device.Device, n int) bool {
	p, to, ok := handoff.Of(d.View(), n)
	if !ok {
		return false
	}
	b, e := handoff.Close(w.key, to, p)
	return e == api.OK && w.office.Put(api.Letter{Kind: api.Parcel, From: p.From, To: to, Bytes: b})
}

// away tells why a member does nothing.
func away(d *device.Device) api.Errno {
	switch d.Is() {
	case api.Down:
		return api.ErrDown
	case api.Refusing:
		return api.ErrRefused
	}
	return api.OK
}
