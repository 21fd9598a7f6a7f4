package world

import (
	"waystation/air"
	"waystation/api"
	"waystation/chair"
	"waystation/hand"
	"waystation/note"
	"waystation/site"
)

// hear has an endpoint do what a note asks of it.
func (w *World) hear(to uint8, n note.Note) api.Errno {
	switch {
	case to == air.Chair:
		return w.hearAtChair(n)
	case n.Mobile >= Many:
		return api.ErrForm
	case n.Kind == note.Hand && to < Many:
		return w.hearAtStation(to, n)
	case n.Kind == note.Tell && to == mobileEnd(n.Mobile):
		return w.hearAtMobile(n)
	}
	return api.ErrForm
}

func (w *World) hearAtChair(n note.Note) api.Errno {
	r := chair.Record{Tx: n.Tx, Who: n.Mobile, Epoch: n.Epoch, Vote: n.Value, Now: w.now}
	switch n.Kind {
	case note.Vote:
		r.Kind = chair.Vote
	case note.More:
		r.Kind = chair.Extend
	case note.Ask:
		return w.tell(n)
	default:
		return api.ErrForm
	}
	_, e := w.chair.Do(r)
	return e
}

// tell answers a mobile that asks for a transaction.
func (w *World) tell(n note.Note) api.Errno {
	d, is := w.chair.Deal(n.Tx)
	if !is {
		return api.ErrNone
	}
	w.send(air.Chair, mobileEnd(n.Mobile), note.Note{Kind: note.Tell, Mobile: n.Mobile, Tx: n.Tx, Value: d.Outcome})
	return api.OK
}

func (w *World) hearAtStation(s uint8, n note.Note) api.Errno {
	side, replies, e := hand.Hear(w.sides[s][n.Mobile], n.Msg)
	w.sides[s][n.Mobile] = side
	w.pass(n.Mobile, known(replies...)...)
	return e
}

func (w *World) hearAtMobile(n note.Note) api.Errno {
	if _, is := w.At(n.Mobile); !is {
		return api.ErrAway
	}
	if n.Value == api.Open {
		return api.OK
	}
	_, e := w.sites[n.Mobile].Do(site.Record{Kind: site.Decide, Tx: n.Tx, N: int64(n.Value)})
	return e
}

// known returns the messages to stations that there are.
func known(l ...hand.Msg) []hand.Msg {
	var to []hand.Msg
	for _, m := range l {
		if m.To < Many {
			to = append(to, m)
		}
	}
	return to
}

// pass sends what stations say to each other about a mobile.
func (w *World) pass(mobile uint8, l ...hand.Msg) {
	for _, m := range l {
		w.send(m.From, m.To, note.Note{Kind: note.Hand, Mobile: mobile, Msg: m})
	}
}

// send sends notes, in order. One for which there is no room is lost, and nobody is told.
func (w *World) send(from, to uint8, l ...note.Note) {
	for _, n := range l {
		if b, e := note.Encode(n); e == api.OK {
			w.Send(air.Letter{From: from, To: to, B: b})
		}
	}
}

// mobileEnd is the endpoint of a mobile: those of the stations come first.
func mobileEnd(m uint8) uint8 {
	return api.MaxNode + m
}
