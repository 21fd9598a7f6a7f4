package agent_test

import (
	"slices"
	"testing"

	"waystation/agent"
	"waystation/api"
	"waystation/hand"
	"waystation/lease"
)

// P19.4, in every state that three stations can come to by some ballots and by all messages that are sent, each of which may arrive at any time, once, several times or never.

// state is the stations' sides, the messages that were sent so far, by their numbers, and the cargo of what was shipped.
type state struct {
	sides   [3]hand.Side
	sent    [4]uint64
	shipped string
}

// walk goes through all states up to an epoch in which nothing is offered any more.
type walk struct {
	numbers map[hand.Msg]int
	msgs    []hand.Msg
	limit   int
	ballots ballots
	seen    map[state]bool
	left    []state
}

func (w *walk) add(s state) {
	if !w.seen[s] {
		w.seen[s] = true
		w.left = append(w.left, s)
	}
}

func (w *walk) send(s state, l ...hand.Msg) state {
	for _, m := range l {
		i, known := w.numbers[m]
		if !known {
			i = len(w.msgs)
			w.numbers[m] = i
			w.msgs = append(w.msgs, m)
		}
		s.sent[i/64] |= 1 << (i % 64)
	}
	return s
}

func (w *walk) run(t *testing.T, first state) {
	t.Helper()
	w.numbers, w.seen = map[hand.Msg]int{}, map[state]bool{}
	w.add(first)
	for len(w.left) > 0 {
		s := w.left[len(w.left)-1]
		w.left = w.left[:len(w.left)-1]
		w.check(t, s)
		for i := range s.sides {
			w.ship(t, s, i)
			w.offer(s, i)
		}
		for i, m := range w.msgs {
			if s.sent[i/64]>>(i%64)&1 == 1 {
				w.arrive(s, m)
			}
		}
	}
}

// check: the agent says what was shipped, if there is an agent, and nobody else says anything.
func (w *walk) check(t *testing.T, s state) {
	t.Helper()
	list, _ := plainUnpack(s.shipped)
	for _, side := range s.sides {
		l, e := agent.Speak(side, 6)
		if side.Lease.State != lease.Held {
			if len(l) != 0 || e != api.ErrNone {
				t.Fatalf("%s says %s, %d", showSide(side), showNotes(l), e)
			}
		} else if !slices.Equal(l, notesOf(list, 6, side.Lease.Epoch)) || e != api.OK {
			t.Fatalf("%s says %s, %d, and %v was shipped", showSide(side), showNotes(l), e, list)
		}
	}
}

// ship brings each ballot to a station, whether it is the agent or not.
func (w *walk) ship(t *testing.T, s state, at int) {
	t.Helper()
	for _, b := range w.ballots {
		side := s.sides[at]
		next, e := agent.Ship(side, b)
		list, _ := plainUnpack(s.shipped)
		plain := plainList{list}
		want := api.ErrNone
		if side.Lease.State == lease.Held {
			want = plain.ship(b)
		}
		if e != want || e != api.OK && next != side {
			t.Fatalf("Ship(%s, %v) = %s, %d, want %d", showSide(side), b, showSide(next), e, want)
		}
		if e == api.OK {
			slices.SortFunc(plain.l, func(a, b agent.Ballot) int { return a.Tx - b.Tx })
			after := s
			after.sides[at], after.shipped = next, plainCargo(plain.l)
			w.add(after)
		}
	}
}

func (w *walk) offer(s state, from int) {
	for to := range uint8(3) {
		if m, e := hand.Ask(s.sides[from], to); e == api.OK && m.Epoch < w.limit {
			w.add(w.send(s, m))
		}
	}
}

func (w *walk) arrive(s state, m hand.Msg) {
	next, reply, e := hand.Hear(s.sides[m.To], m)
	if e == api.OK {
		s.sides[m.To] = next
		w.add(w.send(s, reply...))
	}
}

func TestEveryState(t *testing.T) {
	for _, c := range []struct {
		ballots ballots
		limit   int
		lists   int
	}{
		// The lists are those of which one may come: no ballot or either one for each Tx.
		{ballots{ballot(9, 1), ballot(9, 2), ballot(7, 1)}, 4, 3 * 2},
		{ballots{ballot(9, 1), ballot(300, 2), ballot(7, 1)}, 3, 8},
		{ballots{ballot(9, 1)}, 5, 2},
	} {
		w := walk{limit: c.limit, ballots: c.ballots}
		w.run(t, state{sides: [3]hand.Side{holds(0, 1, ""), {Me: 1}, {Me: 2}}})
		lists, latest := map[string]bool{}, 0
		for s := range w.seen {
			lists[s.shipped] = true
			for _, side := range s.sides {
				latest = max(latest, side.Lease.Epoch)
			}
		}
		if len(lists) != c.lists || latest != c.limit {
			t.Errorf("with %v, %d lists in %d states, up to the epoch %d", c.ballots, len(lists), len(w.seen), latest)
		}
		t.Logf("%d states, %d messages", len(w.seen), len(w.msgs))
	}
}
