package world_test

import (
	"waystation/agent"
	"waystation/air"
	"waystation/api"
	"waystation/chair"
	"waystation/hand"
	"waystation/lease"
	"waystation/note"
	"waystation/site"
	"waystation/world"
)

// The chapter's words, written once more, over the layers below: a world whose letters are plain lists, and that a crash does nothing to.

type (
	step   = world.Step
	errno  = api.Errno
	letter = air.Letter
)

// The limits are written as numbers, so that the tests do not go by the program's own ones.
const (
	most     = 100 // letters to an endpoint
	lastTx   = 999
	lastTick = 1 << 40
	longest  = 1 << 20 // by which the time may go on at once
	theChair = 16
	away     = -1 // where a mobile is that is at no station
)

// The steps, by what they need.

func begin(tx int, who uint8, span int64, most uint8) step {
	return step{What: world.Begin, Tx: tx, A: who, B: most, N: span}
}

func read(m uint8, tx int, key uint8) step {
	return step{What: world.Work, Tx: tx, A: m, Kind: site.Read, Key: key}
}

func add(m uint8, tx int, key uint8, n int64) step {
	return step{What: world.Work, Tx: tx, A: m, Kind: site.Add, Key: key, N: n}
}

func local(m uint8, tx int) step {
	return step{What: world.Work, Tx: tx, A: m, Kind: site.Local}
}

func ship(m uint8, tx int, n int64) step {
	return step{What: world.Ship, Tx: tx, A: m, N: n}
}

func speak(m, s uint8) step { return step{What: world.Speak, A: m, B: s} }

func more(m, s uint8, tx int) step { return step{What: world.More, Tx: tx, A: m, B: s} }

func offer(m, to uint8) step { return step{What: world.Offer, A: m, B: to} }

func again(m, s uint8) step { return step{What: world.Again, A: m, B: s} }

func arrive(to, at uint8) step { return step{What: world.Arrive, A: to, Key: at} }

func lose(to, at uint8) step { return step{What: world.Lose, A: to, Key: at} }

func twice(to, at uint8) step { return step{What: world.Twice, A: to, Key: at} }

func tick(n int64) step { return step{What: world.Tick, N: n} }

func ask(m uint8, tx int) step { return step{What: world.Ask, Tx: tx, A: m} }

func attach(m, s uint8) step { return step{What: world.Attach, A: m, B: s} }

func crash() step { return step{What: world.Crash} }

// plain is a world.
type plain struct {
	chair *chair.Chair
	sites [3]*site.Site
	sides [3][3]hand.Side // of the stations, for the mobiles
	at    [3]int
	now   int64
	to    [17][]letter
}

func newPlain() *plain {
	p := &plain{chair: chair.New(), at: [3]int{0, 1, 2}}
	for i := range 3 {
		p.sites[i] = site.New()
		for m := range 3 {
			p.sides[i][m] = hand.Side{Me: uint8(i)}
		}
		p.sides[i][i].Lease = lease.Lease{Epoch: 1, State: lease.Held}
	}
	return p
}

func (p *plain) clone() *plain {
	c := *p
	c.chair, _ = chair.Replay(p.chair.Log())
	for m, x := range p.sites {
		c.sites[m], _ = site.Replay(x.Log())
	}
	for to, l := range p.to {
		c.to[to] = append([]letter(nil), l...)
	}
	return &c
}

func (p *plain) do(s step) (int64, errno) {
	switch s.What {
	case 1:
		return 0, p.begin(s)
	case 2:
		return p.work(s)
	case 3:
		return 0, p.ship(s)
	case 4:
		return 0, p.speak(s)
	case 5:
		return 0, p.more(s)
	case 6:
		return 0, p.offer(s)
	case 7:
		return 0, p.again(s)
	case 8:
		return 0, p.arrive(s)
	case 9:
		_, e := p.take(s)
		return 0, e
	case 10:
		return 0, p.twice(s)
	case 11:
		return 0, p.tick(s)
	case 12:
		return 0, p.ask(s)
	case 13:
		return 0, p.attach(s)
	case 14:
		return 0, api.OK
	}
	return 0, api.ErrArg
}

func (p *plain) begin(s step) errno {
	_, e := p.chair.Do(chair.Record{Kind: 1, Tx: s.Tx, Who: s.A % 8, Now: p.now, Span: s.N, Cap: int(s.B) % 4})
	if e != api.OK {
		return e
	}
	for m, bit := range []uint8{1, 2, 4} {
		if s.A&bit != 0 {
			p.sites[m].Do(site.Record{Kind: 1, Tx: s.Tx})
		}
	}
	return api.OK
}

func (p *plain) work(s step) (int64, errno) {
	if s.A >= 3 {
		return 0, api.ErrNone
	}
	if s.Kind != 2 && s.Kind != 3 && s.Kind != 5 {
		return 0, api.ErrArg
	}
	return p.sites[s.A].Do(site.Record{Kind: s.Kind, Tx: s.Tx, Key: s.Key, N: s.N})
}

func (p *plain) ship(s step) errno {
	if s.A >= 3 {
		return api.ErrNone
	}
	at := p.at[s.A]
	if at == away || p.sides[at][s.A].Lease.State != lease.Held {
		return api.ErrAway
	}
	r, b := site.Record{Kind: 4, Tx: s.Tx, N: 0}, agent.Ballot{Tx: s.Tx, Vote: 2}
	if s.N%2 != 0 {
		r.N, b.Vote = 1, 1
	}
	if _, e := p.sites[s.A].Do(r); e != api.OK {
		return e
	}
	side, e := agent.Ship(p.sides[at][s.A], b)
	if e == api.OK {
		p.sides[at][s.A] = side
	}
	return e
}

func (p *plain) speak(s step) errno {
	if s.A >= 3 || s.B >= 3 {
		return api.ErrNone
	}
	l, e := agent.Speak(p.sides[s.B][s.A], s.A)
	for _, n := range l {
		p.send(s.B, theChair, n)
	}
	return e
}

func (p *plain) more(s step) errno {
	if s.A >= 3 || s.B >= 3 {
		return api.ErrNone
	}
	if s.Tx < 0 || s.Tx > lastTx {
		return api.ErrArg
	}
	own := p.sides[s.B][s.A].Lease
	if own.State != lease.Held {
		return api.ErrAway
	}
	p.send(s.B, theChair, note.Note{Kind: note.More, Mobile: s.A, Tx: s.Tx, Epoch: own.Epoch})
	return api.OK
}

func (p *plain) offer(s step) errno {
	if s.A >= 3 {
		return api.ErrNone
	}
	for from := range uint8(3) {
		side := p.sides[from][s.A]
		if side.Lease.State != lease.Held {
			continue
		}
		m, e := hand.Ask(side, s.B)
		if e == api.OK && s.B < 3 {
			p.send(from, s.B, note.Note{Kind: note.Hand, Mobile: s.A, Msg: m})
		}
		return e
	}
	return api.ErrAway
}

func (p *plain) again(s step) errno {
	if s.A >= 3 || s.B >= 3 {
		return api.ErrNone
	}
	for _, m := range hand.Again(p.sides[s.B][s.A]) {
		p.send(s.B, m.To, note.Note{Kind: note.Hand, Mobile: s.A, Msg: m})
	}
	return api.OK
}

func (p *plain) take(s step) (letter, errno) {
	if s.A > theChair {
		return letter{}, api.ErrArg
	}
	l := p.to[s.A]
	if int(s.Key) >= len(l) {
		return letter{}, api.ErrNone
	}
	p.to[s.A] = append(append([]letter(nil), l[:s.Key]...), l[s.Key+1:]...)
	return l[s.Key], api.OK
}

func (p *plain) twice(s step) errno {
	if s.A > theChair {
		return api.ErrArg
	}
	l := p.to[s.A]
	if int(s.Key) >= len(l) {
		return api.ErrNone
	}
	if len(l) == most {
		return api.ErrFull
	}
	p.to[s.A] = append(l, l[s.Key])
	return api.OK
}

func (p *plain) arrive(s step) errno {
	l, e := p.take(s)
	if e != api.OK {
		return e
	}
	n, e := note.Decode(l.B)
	if e != api.OK {
		return api.ErrForm
	}
	switch {
	case s.A == theChair && n.Kind == note.Vote:
		_, e = p.chair.Do(chair.Record{Kind: 2, Tx: n.Tx, Who: n.Mobile, Epoch: n.Epoch, Vote: n.Value, Now: p.now})
	case s.A == theChair && n.Kind == note.More:
		_, e = p.chair.Do(chair.Record{Kind: 3, Tx: n.Tx, Who: n.Mobile, Epoch: n.Epoch, Now: p.now})
	case s.A == theChair && n.Kind == note.Ask:
		d, is := p.chair.Deal(n.Tx)
		if !is {
			return api.ErrNone
		}
		p.send(theChair, 8+n.Mobile, note.Note{Kind: note.Tell, Mobile: n.Mobile, Tx: n.Tx, Value: d.Outcome})
	case s.A < 3 && n.Kind == note.Hand && n.Mobile < 3:
		e = p.hearHand(s.A, n)
	case s.A >= 8 && s.A <= 10 && n.Kind == note.Tell && n.Mobile == s.A-8:
		e = p.hearTell(n)
	default:
		e = api.ErrForm
	}
	return e
}

func (p *plain) hearHand(s uint8, n note.Note) errno {
	side, l, e := hand.Hear(p.sides[s][n.Mobile], n.Msg)
	if e != api.OK {
		return e
	}
	p.sides[s][n.Mobile] = side
	for _, m := range l {
		if m.To < 3 {
			p.send(s, m.To, note.Note{Kind: note.Hand, Mobile: n.Mobile, Msg: m})
		}
	}
	return api.OK
}

func (p *plain) hearTell(n note.Note) errno {
	if p.at[n.Mobile] == away {
		return api.ErrAway
	}
	if n.Value == 0 {
		return api.OK
	}
	_, e := p.sites[n.Mobile].Do(site.Record{Kind: 6, Tx: n.Tx, N: int64(n.Value)})
	return e
}

func (p *plain) tick(s step) errno {
	if s.N < 0 || s.N > longest {
		return api.ErrArg
	}
	if p.now+s.N > lastTick {
		return api.ErrBig
	}
	p.now += s.N
	p.chair.Do(chair.Record{Kind: 4, Now: p.now})
	return api.OK
}

func (p *plain) ask(s step) errno {
	if s.A >= 3 {
		return api.ErrNone
	}
	if s.Tx < 0 || s.Tx > lastTx {
		return api.ErrArg
	}
	if p.at[s.A] == away {
		return api.ErrAway
	}
	p.send(8+s.A, theChair, note.Note{Kind: note.Ask, Mobile: s.A, Tx: s.Tx})
	return api.OK
}

func (p *plain) attach(s step) errno {
	if s.A >= 3 {
		return api.ErrNone
	}
	p.at[s.A] = away
	if s.B < 3 {
		p.at[s.A] = int(s.B)
	}
	return api.OK
}

func (p *plain) send(from, to uint8, n note.Note) {
	b, e := note.Encode(n)
	if e == api.OK {
		p.put(letter{From: from, To: to, B: b})
	}
}

func (p *plain) put(l letter) {
	if len(p.to[l.To]) < most {
		p.to[l.To] = append(p.to[l.To], l)
	}
}
