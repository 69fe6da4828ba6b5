package cohort

import (
	"claviger/api"
	"claviger/desk"
	"claviger/handoff"
	"claviger/own"
)

// deliver takes a letter, and lets it come to whom it is for.
func (w *World) deliver(n int) Out {
	o := Out{Kind: api.Deliver}
	l, ok := w.office.Take(n)
	if !ok {
		o.Why = api.ErrNone
		return o
	}
	toMember := l.Kind == api.Ask || l.Kind == api.Parcel || l.Kind == api.Ack
	if toMember && !w.isMember(l.To) || l.Kind == api.Answer && !w.isClient(l.To) {
		o.Why = api.ErrArg
		return o
	}
	switch l.Kind {
	case api.Ask:
		o.N, o.Why = w.ask(l)
	case api.Answer:
		o.Reply, o.Why = w.answer(l)
	case api.Parcel:
		o.Why = w.parcel(l)
	case api.Ack:
		o.Why = w.ack(l)
	default:
		o.Why = api.ErrForm
	}
	return o
}

// ask lets a member answer a request, and tells how many steps its disk took.
func (w *World) ask(l api.Letter) (int, api.Errno) {
	d := w.members[l.To]
	before := d.Steps()
	a, e := desk.Ask(d, w.key, l.Bytes)
	// A deed is one even if the member fell behind it, ahead of its answer.
	if a.Changed {
		w.deeds = append(w.deeds, ownDeed(a.Deed))
	}
	if e != api.OK {
		return 0, e
	}
	w.office.Put(api.Letter{Kind: api.Answer, From: l.To, To: a.Client, Bytes: a.Bytes})
	return int(d.Steps() - before), api.OK
}

func (w *World) answer(l api.Letter) (api.Reply, api.Errno) {
	r, e := w.clients[l.To].Open(l.Bytes)
	if e != api.OK {
		return api.Reply{}, e
	}
	w.replies = append(w.replies, own.Reply(r))
	return r, api.OK
}

// parcel lets a member have a shard, if it never had it since, and gives thanks in any case.
func (w *World) parcel(l api.Letter) api.Errno {
	d := w.members[l.To]
	if e := away(d); e != api.OK {
		return e
	}
	p, e := handoff.Open(w.key, l.To, l.Bytes)
	if e != api.OK {
		return e
	}
	if p.From == l.To || !w.isMember(p.From) {
		return api.ErrOwner
	}
	if _, epoch, _ := d.View().Role(p.Shard); epoch < p.Epoch {
		if e := d.Do(handoff.Record(p)); e != api.OK {
			return e
		}
	}
	b, e := handoff.Thanks(w.key, p.From, handoff.Token{From: l.To, Shard: p.Shard, Epoch: p.Epoch})
	if e != api.OK {
		return e
	}
	w.office.Put(api.Letter{Kind: api.Ack, From: l.To, To: p.From, Bytes: b})
	return api.OK
}

func (w *World) ack(l api.Letter) api.Errno {
	d := w.members[l.To]
	if e := away(d); e != api.OK {
		return e
	}
	t, e := handoff.Thanked(w.key, l.To, l.Bytes)
	if e != api.OK {
		return e
	}
	return d.Do(api.Record{Kind: api.Done, Shard: t.Shard, Epoch: t.Epoch})
}
