package world

import (
	"waystation/agent"
	"waystation/air"
	"waystation/api"
	"waystation/chair"
	"waystation/hand"
	"waystation/note"
	"waystation/site"
)

const (
	// everybody is the set of all mobiles.
	everybody = 1<<Many - 1
	// caps is the number that the B of a Begin is taken modulo.
	caps = 4
	// longestTick is by how much the time may go on at once.
	longestTick = 1 << 20

	// What a ballot has as its vote.
	yes = 1
	no  = 2
)

// act is how a kind of step happens: whether its A, and its B, must be one of those that there are, and what is done then.
type act struct {
	ofA, ofB bool
	run      func(*World, Step) (int64, api.Errno)
}

// acts are those of all kinds of steps.
func acts() [Crash + 1]act {
	return [Crash + 1]act{
		Begin:  {run: (*World).begin},
		Work:   {run: (*World).work, ofA: true},
		Ship:   {run: (*World).ship, ofA: true},
		Speak:  {run: (*World).speak, ofA: true, ofB: true},
		More:   {run: (*World).more, ofA: true, ofB: true},
		Offer:  {run: (*World).offer, ofA: true},
		Again:  {run: (*World).again, ofA: true, ofB: true},
		Arrive: {run: (*World).arrive},
		Lose:   {run: (*World).lose},
		Twice:  {run: (*World).twice},
		Tick:   {run: (*World).tick},
		Ask:    {run: (*World).ask, ofA: true},
		Attach: {run: (*World).attach, ofA: true},
		Crash:  {run: (*World).crash},
	}
}

// begin leaves a site that has a part for the transaction already as it is.
func (w *World) begin(s Step) (int64, api.Errno) {
	who := s.A & everybody
	_, e := w.chair.Do(chair.Record{Kind: chair.Begin, Tx: s.Tx, Who: who, Now: w.now, Span: s.N, Cap: int(s.B % caps)})
	if e != api.OK {
		return 0, e
	}
	for m, x := range w.sites {
		if who>>m&1 == 1 {
			x.Do(site.Record{Kind: site.Begin, Tx: s.Tx})
		}
	}
	return 0, api.OK
}

func (w *World) work(s Step) (int64, api.Errno) {
	switch s.Kind {
	case site.Read, site.Add, site.Local:
		return w.sites[s.A].Do(site.Record{Kind: s.Kind, Tx: s.Tx, Key: s.Key, N: s.N})
	}
	return 0, api.ErrArg
}

func (w *World) ship(s Step) (int64, api.Errno) {
	at := w.positions[s.A]
	if !w.holds(at, s.A) {
		return 0, api.ErrAway
	}
	odd, vote := s.N&1, no
	if odd == 1 {
		vote = yes
	}
	if _, e := w.sites[s.A].Do(site.Record{Kind: site.Vote, Tx: s.Tx, N: odd}); e != api.OK {
		return 0, e
	}
	side, e := agent.Ship(w.sides[at][s.A], agent.Ballot{Tx: s.Tx, Vote: vote})
	w.sides[at][s.A] = side
	return 0, e
}

func (w *World) speak(s Step) (int64, api.Errno) {
	l, e := agent.Speak(w.sides[s.B][s.A], s.A)
	if e != api.OK {
		return 0, e
	}
	w.send(s.B, air.Chair, l...)
	return 0, api.OK
}

func (w *World) more(s Step) (int64, api.Errno) {
	switch {
	case !isTx(s.Tx):
		return 0, api.ErrArg
	case !w.holds(s.B, s.A):
		return 0, api.ErrAway
	}
	w.send(s.B, air.Chair, note.Note{Kind: note.More, Mobile: s.A, Tx: s.Tx, Epoch: w.sides[s.B][s.A].Lease.Epoch})
	return 0, api.OK
}

func (w *World) offer(s Step) (int64, api.Errno) {
	side, is := w.agentOf(s.A)
	if !is {
		return 0, api.ErrAway
	}
	m, e := hand.Ask(side, s.B)
	if e != api.OK {
		return 0, e
	}
	w.pass(s.A, known(m)...)
	return 0, api.OK
}

func (w *World) again(s Step) (int64, api.Errno) {
	w.pass(s.A, hand.Again(w.sides[s.B][s.A])...)
	return 0, api.OK
}

// arrive takes the letter off the network whatever comes of it: what nobody understands is gone too.
func (w *World) arrive(s Step) (int64, api.Errno) {
	l, e := w.Take(s.A, int(s.Key))
	if e != api.OK {
		return 0, e
	}
	n, e := note.Decode(l.B)
	if e != api.OK {
		return 0, e
	}
	return 0, w.hear(s.A, n)
}

func (w *World) lose(s Step) (int64, api.Errno) {
	_, e := w.Take(s.A, int(s.Key))
	return 0, e
}

func (w *World) twice(s Step) (int64, api.Errno) {
	return 0, w.Again(s.A, int(s.Key))
}

func (w *World) tick(s Step) (int64, api.Errno) {
	switch {
	case s.N < 0 || s.N > longestTick:
		return 0, api.ErrArg
	case s.N > api.MaxTick-w.now:
		return 0, api.ErrBig
	}
	w.now += s.N
	w.chair.Do(chair.Record{Kind: chair.Tick, Now: w.now})
	return 0, api.OK
}

func (w *World) ask(s Step) (int64, api.Errno) {
	if !isTx(s.Tx) {
		return 0, api.ErrArg
	}
	if _, is := w.At(s.A); !is {
		return 0, api.ErrAway
	}
	w.send(mobileEnd(s.A), air.Chair, note.Note{Kind: note.Ask, Mobile: s.A, Tx: s.Tx})
	return 0, api.OK
}

func (w *World) attach(s Step) (int64, api.Errno) {
	w.positions[s.A] = s.B
	return 0, api.OK
}

// crash asks for no errors, since there are none: what a log has was executed without one.
func (w *World) crash(Step) (int64, api.Errno) {
	w.chair, _ = chair.Replay(w.chair.Log())
	for m, x := range w.sites {
		w.sites[m], _ = site.Replay(x.Log())
	}
	return 0, api.OK
}

// holds reports whether a station holds the agency for a mobile. One that there isn't holds none.
func (w *World) holds(s, m uint8) bool {
	return w.Side(s, m).Lease.State == held
}

// agentOf returns the side of the station that holds the agency for a mobile, if one does.
func (w *World) agentOf(m uint8) (hand.Side, bool) {
	for s := range uint8(Many) {
		if w.holds(s, m) {
			return w.sides[s][m], true
		}
	}
	return hand.Side{}, false
}

func isTx(tx int) bool {
	return 0 <= tx && tx < api.MaxTx
}
