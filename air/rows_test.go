package air_test

import (
	"fmt"
	"slices"
	"testing"

	"waystation/air"
	"waystation/api"
)

// All that the letters to two endpoints can come to by some calls, where there is room for two.

func walkCalls() []call {
	l := []call{sendOf(1, 17, []byte("a")), sendOf(17, 3, nil), sendOf(1, 3, bytesOf(longest+1)), sendOf(17, 17, bytesOf(longest+1)), takeOf(17, 0), againOf(200, 0), turnOf(17, 0, 0, 1), takeOf(4, 0)}
	for _, to := range []uint8{3, 16} {
		l = append(l, sendOf(1, to, []byte("a")), sendOf(16, to, []byte("a")), sendOf(1, to, nil))
		for at := -1; at <= 2; at++ {
			l = append(l, takeOf(to, at), againOf(to, at), turnOf(to, at, 5, 1))
		}
	}
	return l
}

// place is a state that the plain network can come to, and the shortest way there.
type place struct {
	way []call
	m   *plain
}

func places() []place {
	l := []place{{nil, &plain{room: 2}}}
	known := map[string]bool{fmt.Sprint(l[0].m.to): true}
	for i := 0; i < len(l); i++ {
		for _, c := range walkCalls() {
			m := l[i].m.clone()
			if _, e := m.do(c); e != api.OK {
				continue
			}
			if state := fmt.Sprint(m.to); !known[state] {
				known[state] = true
				l = append(l, place{append(slices.Clone(l[i].way), c), m})
			}
		}
	}
	return l
}

// TestEachCallInAllStates: what it returns, and what there is behind it.
func TestEachCallInAllStates(t *testing.T) {
	all := places()
	if len(all) != 961 {
		t.Errorf("%d states", len(all)) // five letters, thus 1 + 5 + 25 lists of at most two, to each of two endpoints
	}
	for _, at := range all {
		for _, c := range walkCalls() {
			w := after(t, 2, at.way...)
			w.do(c)
			w.gone()
		}
	}
}

// TestErrorsChangeNothing: with all calls that return an error put in at every step, the network goes on as without them.
func TestErrorsChangeNothing(t *testing.T) {
	for _, at := range places() {
		w := newTwin(t, 2)
		for _, c := range at.way {
			w.wrongCalls()
			w.works(c)
		}
		w.wrongCalls()
		w.gone()
	}
}

// wrongCalls does the calls that return an error now.
func (w *twin) wrongCalls() {
	w.t.Helper()
	for _, c := range walkCalls() {
		if _, e := w.m.clone().do(c); e != api.OK {
			w.is(c, letter{}, e)
		}
	}
}

// TestAllShortRows: all rows of six calls to one endpoint, with room for three.
func TestAllShortRows(t *testing.T) {
	calls := []call{sendOf(1, 8, []byte("ab")), sendOf(2, 8, []byte("c")), takeOf(8, 0), takeOf(8, 1), againOf(8, 0), againOf(8, 1), turnOf(8, 0, 1, 3), turnOf(8, 1, 2, 4)}
	rows := 1
	for range 6 {
		rows *= len(calls)
	}
	for row := range rows {
		w := newTwin(t, 3)
		for range 6 {
			w.do(calls[row%len(calls)])
			row /= len(calls)
		}
		for range len(w.m.to[8]) {
			w.works(takeOf(8, 0))
		}
		w.fails(takeOf(8, 0), api.ErrNone)
	}
}

// source makes numbers that are the same in each run.
type source uint64

func (s *source) next(below int) int {
	*s = *s*6364136223846793005 + 1442695040888963407
	return int(uint64(*s) >> 33 % uint64(below))
}

// among is one of those, and now and then one of the others.
func (s *source) among(usual int, others ...uint8) uint8 {
	if s.next(40) == 0 {
		return others[s.next(len(others))]
	}
	return uint8(s.next(usual))
}

func (s *source) bytes() []byte {
	switch s.next(30) {
	case 0:
		return nil
	case 1:
		return bytesOf(longest - s.next(2))
	case 2:
		return bytesOf(longest + 1 + s.next(3))
	}
	b := make([]byte, 1+s.next(9))
	for i := range b {
		b[i] = byte(s.next(256))
	}
	return b
}

// call is about one of the ends, and often about a letter that may be there, if there are about so many.
func (s *source) call(ends []uint8, many int) call {
	to := ends[s.next(len(ends))]
	if s.next(50) == 0 {
		to = uint8(17 + s.next(239))
	}
	at := s.next(many+2) - 1
	switch s.next(10) {
	case 0, 1, 2:
		return sendOf(s.among(17, noEnds()...), to, s.bytes())
	case 3, 4, 5:
		return takeOf(to, at)
	case 6:
		return againOf(to, at)
	}
	place := uint16(s.next(12))
	if s.next(3) == 0 {
		place = uint16(s.next(65536))
	}
	return turnOf(to, at, place, byte(s.next(256)))
}

// everywhere is all endpoints.
func everywhere() []uint8 {
	var l []uint8
	for to := range uint8(theChair + 1) {
		l = append(l, to)
	}
	return l
}

// TestLongRuns: what each call returns, and Len behind each call; at the end, all letters.
func TestLongRuns(t *testing.T) {
	for _, x := range []struct{ runs, calls, room, many int }{{100, 300, 1, 1}, {100, 300, 2, 2}, {100, 1000, 5, 5}, {20, 5000, 100, 8}, {5, 20000, mostRoom, 40}} {
		for run := range x.runs {
			from := source(run*1000 + x.room)
			w := newTwin(t, x.room)
			ends := everywhere()
			if run%3 > 0 { // fewer ends, with more letters to each
				ends = ends[run%17:][:1+run%min(3, 17-run%17)]
			}
			count := map[api.Errno]int{}
			for range x.calls {
				count[w.do(from.call(ends, x.many))]++
				w.lens()
				if len(w.calls) > 500 {
					w.calls = w.calls[400:]
				}
			}
			w.gone()
			for _, e := range []api.Errno{api.OK, api.ErrArg, api.ErrNone} {
				if x.calls >= 1000 && count[e] == 0 {
					t.Errorf("run %d of room %d: no call returned %d: %v", run, x.room, e, count)
				}
			}
		}
	}
}

// P18.4

// TestApart: with the calls for one endpoint alone, each of them returns what it does among those for the others.
func TestApart(t *testing.T) {
	for run := range 60 {
		from := source(run)
		room := []int{1, 2, 5, 30}[run%4]
		a := air.New(room)
		alone := map[uint8]*air.Air{}
		for range 1500 {
			c := from.call(everywhere(), min(room, 5))
			to := c.endpoint()
			if alone[to] == nil {
				alone[to] = air.New(room)
			}
			l, e := c.do(a)
			if wantL, wantE := c.do(alone[to]); !sameLetter(l, wantL) || e != wantE {
				t.Fatalf("run %d: %v = %s, %d, and with no other endpoint %s, %d", run, c, showLetter(l), e, showLetter(wantL), wantE)
			}
			for to, b := range alone {
				if a.Len(to) != b.Len(to) {
					t.Fatalf("run %d: %v: Len(%d) = %d, and with no other endpoint %d", run, c, to, a.Len(to), b.Len(to))
				}
			}
		}
		for to, b := range alone {
			sameLetters(t, a, b, to)
		}
	}
}

// sameLetters takes all letters to an endpoint from both.
func sameLetters(t *testing.T, a, b *air.Air, to uint8) {
	t.Helper()
	for range b.Len(to) {
		l, e := a.Take(to, 0)
		if wantL, wantE := b.Take(to, 0); !sameLetter(l, wantL) || e != wantE {
			t.Errorf("Take(%d, 0) = %s, %d, and with no other endpoint %s, %d", to, showLetter(l), e, showLetter(wantL), wantE)
		}
	}
	if a.Len(to) != 0 {
		t.Errorf("Len(%d) = %d, where there should be no more", to, a.Len(to))
	}
}

// TestEachPairOfEndsIsApart: whatever happens to the letters to one, those to the other stay.
func TestEachPairOfEndsIsApart(t *testing.T) {
	for _, to := range everywhere() {
		for _, other := range everywhere() {
			if to == other {
				continue
			}
			w := after(t, 3, sendOf(other, to, []byte("ab")), sendOf(to, to, []byte("c")), sendOf(to, other, []byte("ab")), sendOf(other, other, []byte("c")))
			w.works(turnOf(to, 0, 0, 1), againOf(to, 0), takeOf(to, 1), turnOf(to, 1, 1, 2), sendOf(other, to, nil))
			w.fails(sendOf(1, to, nil), api.ErrFull)
			w.fails(againOf(to, 0), api.ErrFull)
			w.lens()
			w.holds(other, "ab", "c")
			w.holds(to, "`b", "``", "")
		}
	}
}

// TestOrdersOfEndpoints: calls for three endpoints may come in any order, as long as those for each one do not.
func TestOrdersOfEndpoints(t *testing.T) {
	var rows [3][]call
	for i, to := range []uint8{7, 8, 16} {
		rows[i] = []call{sendOf(to, to, []byte{'a', byte(to)}), againOf(to, 0), turnOf(to, 0, 1, 32), takeOf(to, 1)}
	}
	orders := 0
	var mix func(w []call, at [3]int)
	mix = func(way []call, at [3]int) {
		if len(way) == 12 {
			orders++
			w := after(t, 2, way...)
			w.holds(7, "a'")
			w.holds(8, "a(")
			w.holds(16, "a0")
			return
		}
		for i := range rows {
			if at[i] < 4 {
				next := at
				next[i]++
				mix(append(slices.Clone(way), rows[i][at[i]]), next)
			}
		}
	}
	mix(nil, [3]int{})
	if orders != 34650 { // 12! / (4! 4! 4!)
		t.Errorf("%d orders", orders)
	}
}
