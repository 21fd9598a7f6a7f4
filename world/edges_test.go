package world_test

import (
	"math"
	"slices"
	"testing"

	"waystation/api"
	"waystation/note"
	"waystation/world"
)

// P20.1 with all edges of the fields that a kind uses, in all combinations, in a few states: several conditions may be broken at once.

// choices are the numbers for a field of a step; a field without any has what it has in other.
type choices struct {
	tx, kind  []int
	a, b, key []uint8
	n         []int64
}

var (
	someNodes = []uint8{0, 1, 2, 3, 4, 7, 8, 9, 10, 11, 15, 16, 17, 128, 253, 254, 255}
	someTxs   = []int{math.MinInt, -1, 0, 1, 5, 7, 9, 998, 999, 1000, 1007, math.MaxInt}
	someKinds = []int{math.MinInt, -1, 0, 1, 2, 3, 4, 5, 6, 7, 256 + 3, math.MaxInt}
	someKeys  = []uint8{0, 1, 5, 63, 64, 255}
	someEnds  = []uint8{0, 1, 2, 3, 7, 8, 9, 10, 11, 15, 16, 17, 255}
	someAt    = []uint8{0, 1, 2, 3, 4, 5, 50, 98, 99, 100, 127, 128, 255}
	someNs    = []int64{math.MinInt64, -3, -2, -1, 0, 1, 2, 10, 1<<20 - 1, 1 << 20, 1<<20 + 1, 1 << 40, math.MaxInt64}
)

func edgesOf(what int) choices {
	switch what {
	case world.Begin:
		return choices{tx: someTxs, a: someNodes, b: []uint8{0, 1, 2, 3, 4, 5, 255}, n: someNs}
	case world.Work:
		return choices{tx: someTxs, a: someNodes, kind: someKinds, key: someKeys, n: []int64{0, math.MaxInt64}}
	case world.Ship:
		return choices{tx: someTxs, a: someNodes, n: someNs}
	case world.More:
		return choices{tx: someTxs, a: someNodes, b: someNodes}
	case world.Arrive, world.Lose, world.Twice:
		return choices{a: someEnds, key: someAt}
	case world.Tick:
		return choices{n: append([]int64{-1 << 20, -1 << 40, 2, 5, 9, 1 << 32, 1<<40 - 1}, someNs...)}
	case world.Ask:
		return choices{tx: someTxs, a: someNodes}
	case world.Crash:
		return choices{a: someNodes}
	}
	return choices{a: someNodes, b: someNodes} // Speak, Offer, Again, Attach; and no kind
}

// each goes through all combinations. The fields that the kind does not use have numbers that go by no simple rule.
func (c choices) each(what int, do func(step)) {
	s, i := step{What: what}, 0
	fill := func(n int) int { i++; return i * i % n }
	for range fields(&c.tx, func() int { return someTxs[fill(len(someTxs))] }, &s.Tx) {
		for range fields(&c.kind, func() int { return someKinds[fill(len(someKinds))] }, &s.Kind) {
			for range fields(&c.a, func() uint8 { return someNodes[fill(len(someNodes))] }, &s.A) {
				for range fields(&c.b, func() uint8 { return someNodes[fill(len(someNodes))] }, &s.B) {
					for range fields(&c.key, func() uint8 { return someKeys[fill(len(someKeys))] }, &s.Key) {
						for range fields(&c.n, func() int64 { return someNs[fill(len(someNs))] }, &s.N) {
							do(s)
						}
					}
				}
			}
		}
	}
}

// fields puts one choice behind the other to a field, or another number if there are none.
func fields[T any](l *[]T, other func() T, field *T) func(func() bool) {
	return func(yield func() bool) {
		if len(*l) == 0 {
			*field = other()
			yield()
			return
		}
		for _, x := range *l {
			*field = x
			if !yield() {
				return
			}
		}
	}
}

// busy is a state in which there is something of everything.
func busy() []step {
	return []step{
		begin(7, 7, 1<<20, 3), begin(0, 3, 20, 1), begin(999, 1, 30, 0), begin(9, 2, 5, 0), begin(5, 4, 1000, 0),
		add(0, 7, 1, 5), add(1, 7, 63, -5), add(0, 0, 5, 7), add(1, 0, 5, math.MaxInt64), add(2, 5, 0, 1),
		ship(0, 7, 1), ship(1, 7, 1), ship(0, 0, 1), ship(1, 9, 0), ship(0, 999, 1), {What: world.Work, A: 0, Tx: 7, Kind: 5},
		speak(0, 0), speak(1, 1), arrive(16, 0), arrive(16, 1), more(1, 1, 0), tick(10), ask(2, 7), ask(0, 9), ask(1, 9), arrive(16, 4), arrive(16, 4), arrive(16, 4),
		offer(2, 0), offer(2, 1), offer(0, 2), arrive(2, 0), arrive(0, 1), twice(0, 0), offer(1, 2), attach(1, 3), attach(2, 0),
	}
}

// full is a state in which no endpoint that there is has room for another letter.
func full() []step {
	l := append(busy(), ask(2, 9), arrive(16, 3), offer(1, 0))
	for _, to := range []uint8{0, 1, 2, 8, 9, 10, 16} {
		for range 100 {
			l = append(l, twice(to, 0))
		}
	}
	return l
}

// handed is a state in which agencies are elsewhere, and one is nowhere.
func handed() []step {
	l := []step{begin(7, 7, 10, 1), begin(5, 7, 1<<20, 0), ship(0, 7, 1), ship(1, 7, 0), ship(0, 5, 1), ship(1, 5, 1), ship(2, 5, 1), add(2, 7, 1, 1)}
	l = append(l, offer(0, 1), arrive(1, 0), arrive(0, 0), arrive(1, 0), arrive(0, 0), offer(0, 2), arrive(2, 0), arrive(1, 0), attach(0, 1), attach(2, 255))
	return append(l, speak(0, 1), speak(2, 2), arrive(16, 0), tick(10), crash())
}

// twinAt is a twin in a state; not all of the steps need be OK.
func twinAt(t *testing.T, way []step) *twin {
	t.Helper()
	x := newTwin(t)
	for _, s := range way {
		x.do(s)
	}
	return x
}

func TestEdges(t *testing.T) {
	for name, way := range map[string][]step{"initial": nil, "busy": busy(), "full": full(), "handed": handed()} {
		t.Run(name, func(t *testing.T) {
			t.Parallel()
			for what := range world.Crash + 2 {
				edgesOfKind(t, what, way)
			}
		})
	}
}

func edgesOfKind(t *testing.T, what int, way []step) {
	t.Helper()
	x := twinAt(t, way)
	done := 0
	edgesOf(what).each(what, func(s step) {
		_, e := x.do(s)
		if done++; done%50 == 0 || e == api.OK {
			x.sameCalls()
		}
		if e == api.OK || what == world.Arrive && e != api.ErrArg && e != api.ErrNone {
			x.same()
			x = twinAt(t, way)
		}
		x.steps = x.steps[:min(len(x.steps), len(way))]
	})
	x.same()
}

// TestStates: the states of the edges are what they are meant to be.
func TestStates(t *testing.T) {
	x := twinAt(t, busy())
	x.same()
	for to, n := range map[uint8]int{0: 2, 1: 1, 2: 2, 8: 1, 9: 1, 10: 1, 16: 4} {
		if got := x.w.Under(to); got != n {
			t.Errorf("%d letters to %d", got, to)
		}
	}
	x = twinAt(t, full())
	x.same()
	for _, to := range []uint8{0, 1, 2, 8, 9, 10, 16} {
		if got := x.w.Under(to); got != 100 {
			t.Errorf("%d letters to %d", got, to)
		}
	}
	x = twinAt(t, handed())
	x.same()
	if d, _ := x.w.Chair().Deal(7); d.Outcome != api.Abort || x.w.Side(1, 0).Lease != goneTo(2, 2) || !x.w.Side(1, 0).Keep || len(x.w.Side(1, 0).Cargo) != 6 {
		t.Errorf("%+v, %+v", d, x.w.Side(1, 0))
	}
}

// TestAllNotes: all numbers of each field of a note, at each endpoint that there is, in a few states.
func TestAllNotes(t *testing.T) {
	var notes []note.Note
	for m := range uint8(8) {
		for _, tx := range []int{0, 5, 7, 9, 500, 999} {
			for _, epoch := range []int{1, 2, 3, 1 << 20} {
				notes = append(notes, voteOf(m, tx, epoch, 1), voteOf(m, tx, epoch, 2), moreOf(m, tx, epoch))
			}
			notes = append(notes, askOf(m, tx), tellOf(m, tx, 0), tellOf(m, tx, 1), tellOf(m, tx, 2))
		}
		for i := range 4 * 4 * 4 * 4 {
			kind, from, to, epoch := 1+i%4, uint8(i/4%4), uint8(i/16%4), 1+i/64
			notes = append(notes, handOf(m, kind, from, to, epoch, ""), handOf(m, kind, from, to, epoch, "\x00\x07\x01"))
		}
	}
	for name, way := range map[string][]step{"initial": nil, "busy": busy(), "full": full(), "handed": handed()} {
		t.Run(name, func(t *testing.T) {
			t.Parallel()
			for _, to := range []uint8{0, 1, 2, 3, 7, 8, 9, 10, 11, 15, 16} {
				here := way
				if name == "full" { // there must be room for the note, but for nothing else
					here = append(slices.Clone(way), lose(to, 0))
				}
				x := twinAt(t, here)
				for _, n := range notes {
					x.forgeNote(3, to, n)
					if _, e := x.do(arrive(to, uint8(x.w.Under(to)-1))); e == api.OK {
						x.same()
						x = twinAt(t, here)
					}
				}
				x.same()
			}
		})
	}
}
