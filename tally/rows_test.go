package tally_test

import (
	"iter"
	"math"
	"slices"
	"testing"

	"waystation/api"
	"waystation/tally"
)

// P14.4 and P14.5, in rows of calls.

// call is one of Hear, with no vote, or of Put.
type call struct {
	who         uint8
	epoch, vote int
	put         bool
}

func (c call) do(x tally.Tally) (tally.Tally, api.Errno) {
	if c.put {
		return tally.Put(x, c.who, c.epoch, c.vote)
	}
	return tally.Hear(x, c.who, c.epoch)
}

func (c call) plain(x tally.Tally) (tally.Tally, api.Errno) {
	if c.put {
		return plainPut(x, c.who, c.epoch, c.vote)
	}
	return plainHear(x, c.who, c.epoch)
}

func calls(who []uint8, epochs, votes []int) []call {
	var l []call
	for _, id := range who {
		for _, epoch := range epochs {
			l = append(l, call{who: id, epoch: epoch})
			for _, vote := range votes {
				l = append(l, call{id, epoch, vote, true})
			}
		}
	}
	return l
}

// step makes a call, and checks what P14.4 says of it.
func step(t *testing.T, x tally.Tally, c call) (tally.Tally, api.Errno) {
	t.Helper()
	y, e := c.do(x)
	if want, wantErr := c.plain(x); y != want || e != wantErr {
		t.Fatalf("%v, and %+v: %v, %d, want %v, %d", x, c, y, e, want, wantErr)
	}
	if y.Who != x.Who || !tally.Right(y) {
		t.Fatalf("%v, and %+v: %v", x, c, y)
	}
	for id := range mobiles {
		if x.Votes[id] != none && y.Votes[id] != x.Votes[id] {
			t.Fatalf("%v, and %+v: %v: a vote changed", x, c, y)
		}
		if y.Epochs[id] < x.Epochs[id] {
			t.Fatalf("%v, and %+v: %v: an epoch decreased", x, c, y)
		}
	}
	if was := tally.Outcome(x); was != open && tally.Outcome(y) != was {
		t.Fatalf("%v, and %+v: %v: the outcome changed", x, c, y)
	}
	return y, e
}

// reach is all tallies that such calls can make of one; each call is made on each of them.
func reach(t *testing.T, first tally.Tally, l []call) map[tally.Tally]bool {
	t.Helper()
	seen := map[tally.Tally]bool{first: true}
	left := []tally.Tally{first}
	for len(left) > 0 {
		x := left[0]
		left = left[1:]
		for _, c := range l {
			if y, _ := step(t, x, c); !seen[y] {
				seen[y] = true
				left = append(left, y)
			}
		}
	}
	return seen
}

// TestAllThatCanCome: in every tally that three mobiles can come to in three epochs, no call takes back what there is.
func TestAllThatCanCome(t *testing.T) {
	l := calls([]uint8{1, 2, 5, 6, 8}, []int{0, 1, 2, 3}, []int{none, yes, no, 3})
	seen := reach(t, must(t)(tally.New([]uint8{5, 1, 2})), l)
	// Each has no vote and an epoch of 0 to 3, or one of two votes and an epoch of 1 to 3.
	if len(seen) != 10*10*10 {
		t.Errorf("%d tallies", len(seen))
	}
	last := calls([]uint8{0, 7, 255}, []int{-1, 1, lastEpoch - 1, lastEpoch, lastEpoch + 1}, []int{yes, no})
	seen = reach(t, must(t)(tally.New([]uint8{0, 7})), last)
	if len(seen) != 10*10 {
		t.Errorf("%d tallies up to the last epoch", len(seen))
	}
}

// TestStaysFromAllOn: one call of each kind on each valid tally of the lists.
func TestStaysFromAllOn(t *testing.T) {
	for x := range validTallies {
		for _, who := range []uint8{0, 3, 4, 7} {
			for _, epoch := range []int{1, 3, 4, 5, 6, lastEpoch} {
				step(t, x, call{who: who, epoch: epoch})
				step(t, x, call{who, epoch, yes, true})
				step(t, x, call{who, epoch, no, true})
			}
		}
	}
}

// source makes numbers that are the same in each run.
type source uint64

func (s *source) next(below int) int {
	*s = *s*6364136223846793005 + 1442695040888963407
	return int(uint64(*s) >> 33 % uint64(below))
}

func (s *source) pick(l ...int) int { return l[s.next(len(l))] }

// some is a list of different mobiles in any order.
func (s *source) some() []uint8 {
	l := []uint8{0, 1, 2, 3, 4, 5, 6, 7}
	for i := range l {
		j := i + s.next(len(l)-i)
		l[i], l[j] = l[j], l[i]
	}
	return l[:s.next(len(l))+1]
}

// any is a call that may be wrong, whose epoch is mostly near those that there are.
func (s *source) any(x tally.Tally) call {
	who := uint8(s.pick(0, 1, 2, 3, 4, 5, 6, 7, s.pick(8, 9, 128, 255)))
	epoch := s.pick(-1, 0, 1, 2, lastEpoch, lastEpoch+1, math.MinInt, math.MaxInt)
	if s.next(10) > 0 {
		epoch = x.Epochs[who%mobiles] + s.pick(-1, 0, 0, 0, 1, 1, 2)
	}
	vote := s.pick(yes, yes, yes, yes, yes, yes, no, s.pick(none, 3, -1, math.MinInt, math.MaxInt))
	return call{who, epoch, vote, s.next(3) > 0}
}

// TestLongRows: what there is ahead of a row of calls is held against all that comes behind.
func TestLongRows(t *testing.T) {
	from := source(1)
	errs, ends := map[api.Errno]int{}, map[int]int{}
	for range 2000 {
		x := must(t)(tally.New(from.some()))
		outcome := open
		for range 60 {
			var e api.Errno
			x, e = step(t, x, from.any(x))
			errs[e]++
			now := tally.Outcome(x)
			if outcome != open && now != outcome {
				t.Fatalf("%v: the outcome was %d", x, outcome)
			}
			outcome = now
		}
		ends[outcome]++
	}
	for _, e := range []api.Errno{api.OK, api.ErrArg, api.ErrNone, api.ErrOld, api.ErrHave} {
		if errs[e] < 1000 {
			t.Errorf("%d calls returned %d", errs[e], e)
		}
	}
	for _, n := range []int{open, commit, abort} {
		if ends[n] < 100 {
			t.Errorf("%d rows ended with the outcome %d", ends[n], n)
		}
	}
}

// orders are all orders of the numbers below n.
func orders(n int) iter.Seq[[]int] {
	return func(yield func([]int) bool) {
		l := make([]int, n)
		for i := range l {
			l[i] = i
		}
		var from func(int) bool
		from = func(at int) bool {
			if at == n {
				return yield(slices.Clone(l))
			}
			for i := at; i < n; i++ {
				l[at], l[i] = l[i], l[at]
				if !from(at + 1) {
					return false
				}
				l[at], l[i] = l[i], l[at]
			}
			return true
		}
		from(0)
	}
}

// choices are all rows of n of these votes.
func choices(n int, votes ...int) iter.Seq[[]int] {
	return func(yield func([]int) bool) {
		l := make([]int, n)
		var from func(int) bool
		from = func(at int) bool {
			if at == n {
				return yield(slices.Clone(l))
			}
			for _, v := range votes {
				l[at] = v
				if !from(at + 1) {
					return false
				}
			}
			return true
		}
		from(0)
	}
}

// comes is what the outcome has to be of a tally of such votes, whatever the order in which they came.
func comes(votes []int) int {
	switch {
	case slices.Contains(votes, no):
		return abort
	case slices.Contains(votes, none):
		return open
	}
	return commit
}

// arrive puts the votes of one epoch in this order; none is no vote.
func arrive(t *testing.T, x tally.Tally, epoch int, votes, order []int) tally.Tally {
	t.Helper()
	for _, id := range order {
		if votes[id] == none {
			continue
		}
		y, e := tally.Put(x, uint8(id), epoch, votes[id])
		if e != api.OK {
			t.Fatalf("Put(%v, %d, %d, %d) = %d", x, id, epoch, votes[id], e)
		}
		x = y
	}
	return x
}

// below is the tally of the mobiles below n, without votes.
func below(n int) tally.Tally {
	return of(slices.Repeat([]mobile{{in: true}}, n)...)
}

// TestAnyOrder: all votes of up to five mobiles in all orders, and some of eight.
func TestAnyOrder(t *testing.T) {
	for _, epoch := range []int{1, 7, lastEpoch} {
		for n := 1; n <= 5; n++ {
			for v := range choices(n, none, yes, no) {
				for l := range orders(n) {
					outcomeIs(t, arrive(t, below(n), epoch, v, l), comes(v))
				}
			}
		}
	}
	for _, v := range [][]int{
		{yes, yes, yes, yes, yes, yes, yes, yes},
		{yes, yes, yes, yes, no, yes, yes, yes},
		{yes, yes, yes, yes, yes, yes, yes, none},
	} {
		want := arrive(t, below(mobiles), 3, v, []int{0, 1, 2, 3, 4, 5, 6, 7})
		outcomeIs(t, want, comes(v))
		for l := range orders(mobiles) {
			if x := arrive(t, below(mobiles), 3, v, l); x != want {
				t.Fatalf("the votes %v in the order %v: %v, want %v", v, l, x, want)
			}
		}
	}
}

// TestAnyRepetition: rows of six votes of three mobiles, whose outcome hangs on who is in them.
func TestAnyRepetition(t *testing.T) {
	for v := range choices(3, yes, no) {
		for l := range choices(6, 0, 1, 2) {
			for n := range len(l) + 1 {
				came := make([]int, 3)
				for _, id := range l[:n] {
					came[id] = v[id]
				}
				outcomeIs(t, arrive(t, below(3), 2, v, l[:n]), comes(came))
			}
		}
	}
}

// TestAnyOrderFromAllOn: the votes of one epoch come to tallies that have something already, in every order and then once more: those that are not taken over in one order are in none.
func TestAnyOrderFromAllOn(t *testing.T) {
	l := []mobile{{}, {in: true}, {true, none, 2}, {true, none, 3}, {true, yes, 1}, {true, yes, 2}, {true, no, 2}, {true, yes, 3}, {true, no, 3}}
	for _, m := range l {
		for _, n := range l {
			for _, o := range l {
				if x := of(m, n, o); valid(x) {
					anyOrderFrom(t, x, 2)
				}
			}
		}
	}
}

func anyOrderFrom(t *testing.T, first tally.Tally, epoch int) {
	t.Helper()
	for v := range choices(3, none, yes, no) {
		want, is := -1, tally.Tally{}
		for l := range orders(3) {
			x := first
			for _, id := range slices.Concat(l, l) {
				if v[id] != none {
					x, _ = tally.Put(x, uint8(id), epoch, v[id])
				}
			}
			if want == -1 {
				want, is = tally.Outcome(x), x
			}
			if tally.Outcome(x) != want || x != is {
				t.Fatalf("the votes %v to %v, in the order %v: %v, want %v", v, first, l, x, is)
			}
		}
	}
}

// TestAnyOrderOfMany: rows of the votes of one epoch among all mobiles, with repetitions, and with other things that come from the same agents between them.
func TestAnyOrderOfMany(t *testing.T) {
	from := source(2)
	seen := map[int]int{}
	for range 5000 {
		who := from.some()
		first := must(t)(tally.New(who))
		against := from.next(3) * from.next(2)
		var l []call
		for i, id := range who {
			vote := yes
			if i < against {
				vote = no
			}
			if from.next(20) > 0 {
				l = append(l, call{id, 5, vote, true})
			}
		}
		want := open
		for turn := range 4 {
			x := first
			for _, c := range from.mixed(l, turn) {
				x = must(t)(c.do(x))
			}
			if turn == 0 {
				want = tally.Outcome(x)
			}
			outcomeIs(t, x, want)
		}
		seen[want]++
	}
	for _, n := range []int{open, commit, abort} {
		if seen[n] < 500 {
			t.Errorf("%d rows ended with the outcome %d", seen[n], n)
		}
	}
}

// mixed is the calls in another order, each up to so many times more, and some of them as a Hear too.
func (s *source) mixed(l []call, more int) []call {
	l = slices.Clone(l)
	for _, c := range slices.Clone(l) {
		for range s.next(more + 1) {
			l = append(l, c)
		}
		if s.next(2) == 0 {
			l = append(l, call{who: c.who, epoch: c.epoch})
		}
	}
	for i := range l {
		j := i + s.next(len(l)-i)
		l[i], l[j] = l[j], l[i]
	}
	return l
}
