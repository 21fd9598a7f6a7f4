package agent_test

import (
	"slices"
	"testing"

	"waystation/agent"
	"waystation/api"
	"waystation/hand"
	"waystation/lease"
	"waystation/note"
)

// P19.4, in all orders of a few calls, and in long rows of calls at several stations for several mobiles.

// plainList is the votes that were shipped, the first one for each transaction, in no order.
type plainList struct {
	l ballots
}

// ship is the error that the agent is to return, and keeps the ballot if there is none.
func (p *plainList) ship(b agent.Ballot) api.Errno {
	switch {
	case !validBallot(b):
		return api.ErrArg
	case slices.Contains(p.l, other(b)):
		return api.ErrHave
	case slices.Contains(p.l, b):
		return api.OK
	case len(p.l) == most:
		return api.ErrFull
	}
	p.l = append(p.l, b)
	return api.OK
}

// notes are what is to be said: those for the ballots, the least Tx first.
func (p *plainList) notes(mobile uint8, epoch int) []note.Note {
	l := slices.Clone(p.l)
	slices.SortFunc(l, func(a, b agent.Ballot) int { return a.Tx - b.Tx })
	return notesOf(l, mobile, epoch)
}

// over takes a message over the network, in a note of its own.
func over(t *testing.T, mobile uint8, m hand.Msg) hand.Msg {
	t.Helper()
	b, e := note.Encode(note.Note{Kind: note.Hand, Mobile: mobile, Msg: m})
	n, e2 := note.Decode(b)
	if e != api.OK || e2 != api.OK || n.Mobile != mobile {
		t.Fatalf("%+v does not come over the network: %d, %d", m, e, e2)
	}
	return n.Msg
}

// handOff takes the agency from one side to another one, by the four messages.
func handOff(t *testing.T, a, b hand.Side) (hand.Side, hand.Side) {
	t.Helper()
	offer, e := hand.Ask(a, b.Me)
	if e != api.OK {
		t.Fatalf("Ask(%s, %d) = %d", showSide(a), b.Me, e)
	}
	for way := []hand.Msg{offer}; len(way) > 0; {
		m := over(t, 3, way[0])
		to := &a
		if m.To == b.Me {
			to = &b
		}
		next, reply, e := hand.Hear(*to, m)
		if e != api.OK {
			t.Fatalf("Hear(%s, %+v) = %d", showSide(*to), m, e)
		}
		*to = next
		way = append(way[1:], reply...)
	}
	return a, b
}

// TestHandedOff: what was shipped to one station is what the other one says, and the first one says nothing any more.
func TestHandedOff(t *testing.T) {
	for _, list := range validLists() {
		a, b := holds(1, 5, ""), hand.Side{Me: 2}
		half := len(list) / 2
		a = ships(t, a, list[:half]...)
		a, b = handOff(t, a, b)
		speakFails(t, a, 3, api.ErrNone)
		b = ships(t, b, list[half:]...)
		if l, e := speak(t, b, 3); e != api.OK || !slices.Equal(l, notesOf(list, 3, 6)) {
			t.Fatalf("%s says %s, %d", showSide(b), showNotes(l), e)
		}
		b, a = handOff(t, b, a)
		speakFails(t, b, 3, api.ErrNone)
		if l, e := speak(t, a, 3); e != api.OK || !slices.Equal(l, notesOf(list, 3, 7)) {
			t.Fatalf("%s says %s, %d", showSide(a), showNotes(l), e)
		}
	}
}

// TestEveryOrderOfCalls: ballots that are shipped to whoever is the agent, and handoffs, in all orders.
func TestEveryOrderOfCalls(t *testing.T) {
	calls := append(of(9, 7, 300), other(of(7)[0]), ballot(9, 3), ballot(-1, 0), ballot(-2, 0))
	each(calls, func(row ballots) {
		sides := [3]hand.Side{holds(0, 1, ""), {Me: 1}, {Me: 2}}
		at := 0
		var list plainList
		for _, c := range row {
			if c.Vote == 0 { // a handoff, by one or two stations
				to := (at - c.Tx) % 3
				sides[at], sides[to] = handOff(t, sides[at], sides[to])
				at = to
			} else if next, e := ship(t, sides[at], c); e != list.ship(c) {
				t.Fatalf("in %v, Ship(%s, %v) = %d", row, showSide(sides[at]), c, e)
			} else {
				sides[at] = next
			}
			for i, s := range sides {
				if i != at {
					speakFails(t, s, 3, api.ErrNone)
				} else if l, e := speak(t, s, 3); e != api.OK || !slices.Equal(l, list.notes(3, s.Lease.Epoch)) {
					t.Fatalf("in %v, %s says %s, %d", row, showSide(s), showNotes(l), e)
				}
			}
		}
	})
}

const (
	mobiles  = 3
	stations = 4
)

// run is the sides of some stations for some mobiles, what was shipped of each mobile, what was said for it, and the messages on their way.
type run struct {
	sides [mobiles][stations]hand.Side
	lists [mobiles]plainList
	said  [mobiles]map[note.Note]bool
	held  [mobiles]map[int]uint8 // who held the agency, by epochs
	way   []letter
	old   []letter // those that arrived, and may arrive once more
	errs  map[api.Errno]int
}

type letter struct {
	mobile uint8
	m      hand.Msg
}

func beginRun(epoch int) *run {
	r := &run{errs: map[api.Errno]int{}}
	for m := range r.sides {
		for s := range r.sides[m] {
			r.sides[m][s] = hand.Side{Me: uint8(s)}
		}
		r.sides[m][m] = holds(uint8(m), epoch+m, "")
		r.said[m] = map[note.Note]bool{}
		r.held[m] = map[int]uint8{epoch + m: uint8(m)}
	}
	return r
}

func (r *run) send(mobile int, l ...hand.Msg) {
	for _, m := range l {
		r.way = append(r.way, letter{uint8(mobile), m})
	}
}

// ship brings a ballot to any station: only the agent may take it.
func (r *run) ship(t *testing.T, mobile, station int, b agent.Ballot) {
	t.Helper()
	s := r.sides[mobile][station]
	next, e := agent.Ship(s, b)
	r.errs[e]++
	if s.Lease.State != lease.Held {
		if next != s || e != api.ErrNone && (e != api.ErrArg || validBallot(b)) {
			t.Fatalf("Ship(%s, %v) = %s, %d", showSide(s), b, showSide(next), e)
		}
		return
	}
	if want := r.lists[mobile].ship(b); e != want || e != api.OK && next != s {
		t.Fatalf("Ship(%s, %v) = %s, %d, want %d", showSide(s), b, showSide(next), e, want)
	}
	r.sides[mobile][station] = next
}

// speak has any station say what it may: only the agent says anything, and it says all that was shipped.
func (r *run) speak(t *testing.T, mobile, station int) {
	t.Helper()
	s := r.sides[mobile][station]
	l, e := agent.Speak(s, uint8(mobile))
	if s.Lease.State != lease.Held {
		if len(l) != 0 || e != api.ErrNone {
			t.Fatalf("Speak(%s, %d) = %s, %d", showSide(s), mobile, showNotes(l), e)
		}
		return
	}
	if want := r.lists[mobile].notes(uint8(mobile), s.Lease.Epoch); !slices.Equal(l, want) || e != api.OK {
		t.Fatalf("Speak(%s, %d) = %s, %d, want %s", showSide(s), mobile, showNotes(l), e, showNotes(want))
	}
	if by, is := r.held[mobile][s.Lease.Epoch]; !is || by != s.Me {
		t.Fatalf("%s speaks in an epoch that it did not get", showSide(s))
	}
	for _, n := range l {
		r.said[mobile][n] = true
	}
}

func (r *run) hear(t *testing.T, x letter) {
	t.Helper()
	to := &r.sides[x.mobile][x.m.To]
	was := to.Lease
	next, reply, _ := hand.Hear(*to, over(t, x.mobile, x.m))
	*to = next
	if next.Lease.State == lease.Held && next.Lease != was {
		r.held[x.mobile][next.Lease.Epoch] = next.Me
	}
	r.send(int(x.mobile), reply...)
}

// one takes any message off its way; it arrives once, twice, or never.
func (r *run) one(t *testing.T, from *source) {
	t.Helper()
	if len(r.way) == 0 {
		return
	}
	i := from.next(len(r.way))
	x := r.way[i]
	r.way = slices.Delete(r.way, i, i+1)
	if r.old = append(r.old, x); len(r.old) > 300 {
		r.old = slices.Delete(r.old, from.next(200), 300)
	}
	if times := from.next(5); times > 0 {
		for range (times + 1) / 2 {
			r.hear(t, x)
		}
	}
}

// step is one of all that may come to pass.
func (r *run) step(t *testing.T, from *source, spread int) {
	t.Helper()
	mobile, station := from.next(mobiles), from.next(stations)
	switch from.next(12) {
	case 0, 1:
		r.ship(t, mobile, station, ballot(from.next(spread)*7%1000, 1+from.next(2)))
	case 2:
		r.ship(t, mobile, station, ballot(from.next(1004)-2, from.next(4)))
	case 3, 4:
		r.speak(t, mobile, station)
	case 5, 6:
		if offer, e := hand.Ask(r.sides[mobile][station], uint8(from.next(stations))); e == api.OK {
			r.send(mobile, offer)
		}
	case 7:
		r.send(mobile, hand.Again(r.sides[mobile][station])...)
	case 8:
		if len(r.old) > 0 {
			r.hear(t, r.old[from.next(len(r.old))])
		}
	default:
		r.one(t, from)
	}
}

// settle stops the losses, until each agency is somewhere, and lets all speak.
func (r *run) settle(t *testing.T) {
	t.Helper()
	for m := range r.sides {
		for _, s := range r.sides[m] {
			r.send(m, hand.Again(s)...)
		}
	}
	for len(r.way) > 0 {
		x := r.way[0]
		r.way = r.way[1:]
		r.hear(t, x)
	}
	for m := range r.sides {
		agents := 0
		for s := range r.sides[m] {
			r.speak(t, m, s)
			if r.sides[m][s].Lease.State == lease.Held {
				agents++
			}
		}
		if agents != 1 {
			t.Fatalf("%d stations speak for %d: %v", agents, m, r.sides[m])
		}
	}
}

// check holds all that was ever said for a mobile against what was shipped of it: all of it, with its vote, and nothing else.
func (r *run) check(t *testing.T) {
	t.Helper()
	for m := range r.sides {
		missing := slices.Clone(r.lists[m].l)
		for n := range r.said[m] {
			b := ballot(n.Tx, n.Value)
			if !slices.Contains(r.lists[m].l, b) || n.Mobile != uint8(m) || n.Kind != 2 || n.Msg != (hand.Msg{}) {
				t.Fatalf("for %d, %+v was said, and %v was shipped", m, n, r.lists[m].l)
			}
			missing = slices.DeleteFunc(missing, func(x agent.Ballot) bool { return x == b })
		}
		if len(missing) > 0 {
			t.Fatalf("for %d, %v was not said", m, missing)
		}
	}
}

func TestLongRows(t *testing.T) {
	errs := map[api.Errno]int{}
	for seed := range 30 {
		from := source(seed)
		r := beginRun([]int{1, 1000, lastEpoch - 5}[seed%3])
		for range 20000 {
			r.step(t, &from, []int{10, 40, 60, 1000}[seed%4])
		}
		r.settle(t)
		r.check(t)
		for m := range r.held {
			if seed%3 < 2 && len(r.held[m]) < 50 || len(r.lists[m].l) < 30 {
				t.Errorf("seed %d: the agency for %d was held in %d epochs, and %d ballots were shipped", seed, m, len(r.held[m]), len(r.lists[m].l))
			}
		}
		for e, n := range r.errs {
			errs[e] += n
		}
	}
	for _, e := range []api.Errno{api.OK, api.ErrArg, api.ErrNone, api.ErrHave, api.ErrFull} {
		if errs[e] < 1000 {
			t.Errorf("the error %d: %d times", e, errs[e])
		}
	}
	if len(errs) != 5 {
		t.Errorf("the errors %v", errs)
	}
}
