package hand_test

import (
	"slices"
	"testing"

	"waystation/api"
	"waystation/hand"
	"waystation/lease"
)

// P12.4, P12.5 and P12.6, in long runs of eight stations, and with each way in which a few messages are lost.

// source makes numbers that are the same in each run.
type source uint64

func (s *source) next(below int) int {
	*s = *s*6364136223846793005 + 1442695040888963407
	return int(uint64(*s) >> 33 % uint64(below))
}

// run is eight stations, the messages on their way, and what was seen so far.
type run struct {
	sides  [8]hand.Side
	way    []hand.Msg
	old    []hand.Msg // those that arrived, and may arrive once more
	held   map[int]uint8
	cargo  string
	heard  map[api.Errno]int
	gotten [8]int // how often each station got the agency
}

func beginRun(first uint8, epoch int, cargo string) *run {
	r := &run{held: map[int]uint8{epoch: first}, cargo: cargo, heard: map[api.Errno]int{}}
	for i := range r.sides {
		r.sides[i] = idles(uint8(i))
	}
	r.sides[first] = holds(first, epoch, cargo)
	return r
}

func (r *run) hear(t *testing.T, m hand.Msg) {
	t.Helper()
	s := r.sides[m.To]
	next, reply, e := hand.Hear(s, m)
	want, wantReply, wantErr := plainHear(s, m)
	if next != want || !slices.Equal(reply, wantReply) || e != wantErr {
		t.Fatalf("Hear(%s, %s) = %s, %s, %d", showSide(s), showMsg(m), showSide(next), showMsgs(reply), e)
	}
	r.sides[m.To] = next
	r.way = append(r.way, reply...)
	r.heard[e]++
	if next.Lease.State == lease.Held && next.Lease != s.Lease {
		if by, was := r.held[m.Epoch]; was {
			t.Fatalf("by %s, %d holds epoch %d, which %d held", showMsg(m), m.To, m.Epoch, by)
		}
		r.held[m.Epoch] = m.To
		r.gotten[m.To]++
	}
	r.check(t)
}

// check holds all stations against P12.4 and P12.5, and returns who holds the agency.
func (r *run) check(t *testing.T) (hand.Side, bool) {
	t.Helper()
	var at []hand.Side
	for _, s := range r.sides {
		if s.Lease.State == lease.Held {
			at = append(at, s)
		}
	}
	switch {
	case len(at) > 1:
		t.Fatalf("%s and %s hold the agency", showSide(at[0]), showSide(at[1]))
	case len(at) == 0:
		return hand.Side{}, false
	case at[0].Cargo != r.cargo:
		t.Fatalf("%s holds the agency, and the cargo was %s", showSide(at[0]), showCargo(r.cargo))
	case r.held[at[0].Lease.Epoch] != at[0].Me:
		t.Fatalf("%s holds the agency, and %d got it", showSide(at[0]), r.held[at[0].Lease.Epoch])
	}
	return at[0], true
}

// step is one of all that may come to pass: an offer, a cargo that changes, something sent again, or a message that arrives, arrives twice, arrives long after, or is lost.
func (r *run) step(t *testing.T, from *source) {
	t.Helper()
	at, is := r.check(t)
	switch from.next(10) {
	case 0, 1:
		for range from.next(3) {
			if offer, e := hand.Ask(at, uint8(from.next(8))); e == api.OK {
				r.way = append(r.way, offer)
			}
		}
	case 2:
		if is {
			r.sides[at.Me].Cargo = bytesOf(byte(from.next(256)), from.next(501))
			r.cargo = r.sides[at.Me].Cargo
		}
	case 3:
		for _, s := range r.sides {
			r.way = append(r.way, hand.Again(s)...)
		}
	case 4:
		if len(r.old) > 0 {
			r.hear(t, r.old[from.next(len(r.old))])
		}
	default:
		r.one(t, from)
	}
}

// one takes any message off its way.
func (r *run) one(t *testing.T, from *source) {
	t.Helper()
	if len(r.way) == 0 {
		return
	}
	i := from.next(len(r.way))
	m := r.way[i]
	r.way = slices.Delete(r.way, i, i+1)
	if r.old = append(r.old, m); len(r.old) > 500 {
		r.old = slices.Delete(r.old, from.next(400), 500)
	}
	if times := from.next(5); times > 0 {
		for range (times + 1) / 2 {
			r.hear(t, m)
		}
	}
}

// settle stops the losses, and asks until the agency is at the goal.
func (r *run) settle(t *testing.T, goal uint8) hand.Side {
	t.Helper()
	for range 20 {
		if at, is := r.check(t); is && (at.Me == goal || at.Lease.Epoch == last) {
			return at
		} else if offer, e := hand.Ask(at, goal); is && e == api.OK {
			r.way = append(r.way, offer)
		}
		for _, s := range r.sides {
			r.way = append(r.way, hand.Again(s)...)
		}
		for len(r.way) > 0 {
			m := r.way[0]
			r.way = r.way[1:]
			r.hear(t, m)
		}
	}
	t.Fatalf("the agency does not arrive at %d", goal)
	return hand.Side{}
}

func TestLongRuns(t *testing.T) {
	for seed := range 20 {
		from := source(seed)
		r := beginRun(uint8(seed%8), 1+seed*1000, bytesOf('c', seed*25))
		for range 4000 {
			r.step(t, &from)
		}
		for goal := range uint8(8) {
			if at := r.settle(t, goal); at.Me != goal {
				t.Fatalf("seed %d: %s has the agency, and not %d", seed, showSide(at), goal)
			}
		}
		if len(r.held) < 30 || slices.Min(r.gotten[:]) == 0 || r.heard[api.OK] == 0 || r.heard[api.ErrOld] == 0 || len(r.heard) > 2 {
			t.Errorf("seed %d: the agency was held in %d epochs, it came %v times, and the answers were %v", seed, len(r.held), r.gotten, r.heard)
		}
	}
}

// TestLongRunsToTheEnd: where the last epoch is reached, the agency stays, with its cargo.
func TestLongRunsToTheEnd(t *testing.T) {
	for seed := range 20 {
		from := source(seed)
		r := beginRun(uint8(seed%8), last-1-seed, "c")
		for range 4000 {
			r.step(t, &from)
		}
		at := r.settle(t, 0)
		if at.Lease.Epoch != last {
			t.Fatalf("seed %d: the last epoch was not reached, but %d", seed, at.Lease.Epoch)
		}
		for goal := range uint8(8) {
			if is := r.settle(t, goal); is != at {
				t.Fatalf("seed %d: %s, and then %s has the agency", seed, showSide(at), showSide(is))
			}
			if _, e := hand.Ask(at, goal); goal != at.Me && e != api.ErrBig {
				t.Fatalf("seed %d: Ask(%s, %d): %d", seed, showSide(at), goal, e)
			}
		}
	}
}

// TestEachLoss: of the first messages of a handoff, each set is lost, and each set comes twice; what is not answered is sent again. Once no more are lost, the agency arrives.
func TestEachLoss(t *testing.T) {
	for lost := range 1 << 8 {
		for twice := range 1 << 8 {
			a, b := holds(1, 5, "c"), idles(2)
			sent := 0
			for rounds := 0; !done(a, b); rounds++ {
				if rounds > 9 {
					t.Fatalf("lost %b, twice %b: %s, %s", lost, twice, showSide(a), showSide(b))
				}
				way := hand.Again(a)
				if offer, e := hand.Ask(a, 2); e == api.OK {
					way = append(way, offer)
				}
				for len(way) > 0 {
					m, times := way[0], 1
					way = way[1:]
					if lost>>sent&1 == 1 {
						times = 0
					} else if twice>>sent&1 == 1 {
						times = 2
					}
					sent++
					for range times {
						way = append(way, heardBy(&a, &b, m)...)
					}
				}
			}
			if a != gave(1, 5, 2) || b != holds(2, 6, "c") {
				t.Fatalf("lost %b, twice %b: %s, %s", lost, twice, showSide(a), showSide(b))
			}
		}
	}
}

// done tells that the one has the agency, and the other one knows of it.
func done(a, b hand.Side) bool {
	return b.Lease.State == lease.Held && a.Lease.State == lease.Gone && !a.Keep
}

func heardBy(a, b *hand.Side, m hand.Msg) []hand.Msg {
	s := a
	if m.To == b.Me {
		s = b
	}
	next, reply, _ := hand.Hear(*s, m)
	*s = next
	return reply
}
