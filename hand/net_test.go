package hand_test

import (
	"testing"

	"waystation/api"
	"waystation/hand"
	"waystation/lease"
)

// P12.4, P12.5 and P12.6, in every state that a few stations can come to.

// post is the messages that were ever sent, each with a number.
type post struct {
	numbers map[hand.Msg]int
	msgs    []hand.Msg
}

func (p *post) number(m hand.Msg) int {
	n, known := p.numbers[m]
	if !known {
		n = len(p.msgs)
		p.numbers[m] = n
		p.msgs = append(p.msgs, m)
	}
	return n
}

// net is three stations, the messages that they have sent so far, by their numbers, each of which may arrive at any time, and who held the agency, with what cargo.
type net struct {
	sides  [3]hand.Side
	sent   [4]uint64
	holder [5]uint8 // one more than the station that held it, by epochs from the first one; 0 for none
	cargo  string
}

func (n *net) send(p *post, l []hand.Msg) {
	for _, m := range l {
		i := p.number(m)
		n.sent[i/64] |= 1 << (i % 64)
	}
}

func (n net) wasSent(i int) bool {
	return n.sent[i/64]>>(i%64)&1 == 1
}

// place is where in a net a station is.
func (n net) place(station uint8) int {
	for i, s := range n.sides {
		if s.Me == station {
			return i
		}
	}
	return -1
}

// walk goes through all states of a net, up to an epoch in which nothing is offered any more.
type walk struct {
	post
	first, limit int
	seen         map[net]bool
	left         []net
}

func begin(sides [3]hand.Side, first, limit int) *walk {
	w := &walk{post: post{numbers: map[hand.Msg]int{}}, first: first, limit: limit, seen: map[net]bool{}}
	n := net{sides: sides}
	for _, s := range sides {
		if s.Lease.State == lease.Held {
			n.holder[0], n.cargo = s.Me+1, s.Cargo
		}
	}
	w.add(n)
	return w
}

func (w *walk) add(n net) {
	if !w.seen[n] {
		w.seen[n] = true
		w.left = append(w.left, n)
	}
}

// each calls see for each state, and goes on from there.
func (w *walk) each(t *testing.T, see func(net)) {
	t.Helper()
	for len(w.left) > 0 {
		n := w.left[len(w.left)-1]
		w.left = w.left[:len(w.left)-1]
		w.check(t, n)
		see(n)
		w.ask(t, n)
		w.ship(n)
		for i := range len(w.msgs) {
			if n.wasSent(i) {
				w.arrive(t, n, w.msgs[i])
			}
		}
	}
}

func (w *walk) ask(t *testing.T, n net) {
	t.Helper()
	for _, s := range n.sides {
		for _, other := range n.sides {
			m, e := hand.Ask(s, other.Me)
			if e == api.OK != (s.Lease.State == lease.Held && s.Lease.Epoch < last && s.Me != other.Me) {
				t.Fatalf("Ask(%s, %d) = %s, %d", showSide(s), other.Me, showMsg(m), e)
			}
			if e == api.OK && s.Lease.Epoch < w.limit {
				next := n
				next.send(&w.post, []hand.Msg{m})
				w.add(next)
			}
		}
	}
}

// ship changes the cargo where the agency is.
func (w *walk) ship(n net) {
	for i, s := range n.sides {
		if s.Lease.State == lease.Held && len(s.Cargo) < 2 {
			next := n
			next.sides[i].Cargo += string('a' + rune(i))
			next.cargo = next.sides[i].Cargo
			w.add(next)
		}
	}
}

// arrive brings a message to its station, and to the others, which it is not for.
func (w *walk) arrive(t *testing.T, n net, m hand.Msg) {
	t.Helper()
	for i, s := range n.sides {
		got, reply, e := hand.Hear(s, m)
		if s.Me != m.To {
			if got != s || len(reply) > 0 || e != api.ErrArg {
				t.Fatalf("Hear(%s, %s) = %s, %s, %d", showSide(s), showMsg(m), showSide(got), showMsgs(reply), e)
			}
			continue
		}
		next := n
		next.sides[i] = got
		next.send(&w.post, reply)
		if got.Lease.State == lease.Held && got != s {
			w.took(t, n, &next, m)
		}
		w.add(next)
	}
}

// took notes who holds the agency now, and that this epoch was held by none ahead of it.
func (w *walk) took(t *testing.T, n net, next *net, m hand.Msg) {
	t.Helper()
	epoch := m.Epoch - w.first
	if n.holder[epoch] != 0 {
		t.Fatalf("by %s, %d holds epoch %d, which %d held", showMsg(m), m.To, m.Epoch, n.holder[epoch]-1)
	}
	next.holder[epoch] = m.To + 1
}

// check holds a state against what P12.4 and P12.5 say.
func (w *walk) check(t *testing.T, n net) {
	t.Helper()
	holders, latest := 0, hand.Side{}
	for _, s := range n.sides {
		if !hand.Right(s) {
			t.Fatalf("%s is not valid", showSide(s))
		}
		for _, m := range hand.Again(s) {
			if i, known := w.numbers[m]; !known || !n.wasSent(i) {
				t.Fatalf("Again(%s) = %s, which was not sent", showSide(s), showMsg(m))
			}
		}
		if s.Lease.State == lease.Held {
			holders++
		}
		if s.Lease.Epoch > latest.Lease.Epoch {
			latest = s
		}
	}
	switch {
	case holders > 1:
		t.Fatalf("%d stations hold the agency: %v", holders, n.sides)
	case holders == 1 && latest.Lease.State != lease.Held:
		t.Fatalf("the station that holds the agency is not in the latest epoch: %v", n.sides)
	case holders == 0 && !latest.Keep:
		t.Fatalf("nobody holds the agency, and the last one that did does not keep it: %v", n.sides)
	case latest.Cargo != n.cargo:
		t.Fatalf("the cargo is %q, and not %q: %v", latest.Cargo, n.cargo, n.sides)
	}
}

// settle lets everything arrive, and what is not answered be sent again, until a station has the agency and nobody waits for an answer. It returns who has it then.
func settle(t *testing.T, n net, goal uint8) hand.Side {
	t.Helper()
	for range 10 {
		var way []hand.Msg
		var at hand.Side
		for _, s := range n.sides {
			way = append(way, hand.Again(s)...)
			if s.Lease.State == lease.Held {
				at = s
			}
		}
		if offer, e := hand.Ask(at, goal); e == api.OK {
			way = append(way, offer)
		}
		if len(way) == 0 {
			return at
		}
		for len(way) > 0 {
			i := n.place(way[0].To)
			next, reply, _ := hand.Hear(n.sides[i], way[0])
			n.sides[i] = next
			way = append(way[1:], reply...)
		}
	}
	t.Fatalf("the agency does not arrive at %d: %v", goal, n.sides)
	return hand.Side{}
}

// settles checks P12.6: from every state the agency comes to whoever is to have it.
func settles(t *testing.T, n net) {
	t.Helper()
	for _, s := range n.sides {
		at := settle(t, n, s.Me)
		if at.Lease.State != lease.Held || at.Cargo != n.cargo {
			t.Fatalf("%s has the agency, and the cargo was %q: %v", showSide(at), n.cargo, n.sides)
		}
		// In the last epoch the agency stays where it is.
		if at.Me != s.Me && at.Lease.Epoch != last {
			t.Fatalf("%s has the agency, and not %d: %v", showSide(at), s.Me, n.sides)
		}
	}
}

func TestEveryStateOfThreeStations(t *testing.T) {
	for _, c := range []struct {
		sides             [3]hand.Side
		first, limit, way int
	}{
		{[3]hand.Side{holds(0, 1, "x"), idles(3), idles(7)}, 1, 5, 31},
		{[3]hand.Side{idles(1), holds(2, last-3, ""), idles(0)}, last - 3, last, 15},
		{[3]hand.Side{idles(5), idles(6), holds(4, last, "")}, last, last, 1},
	} {
		w := begin(c.sides, c.first, c.limit)
		ways := map[[5]uint8]bool{}
		w.each(t, func(n net) {
			ways[n.holder] = true
			settles(t, n)
		})
		// In each epoch but the first one it may be either of the two that did not hold it in the one ahead.
		if len(ways) != c.way {
			t.Errorf("from %v on, the agency went %d ways, and not %d", c.sides, len(ways), c.way)
		}
	}
}
