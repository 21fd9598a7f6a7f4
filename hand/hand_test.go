package hand_test

import (
	"math"
	"slices"
	"strings"
	"testing"

	"waystation/api"
	"waystation/hand"
	"waystation/lease"
)

// The calls, each made twice: what it answers hangs on its arguments alone. Between them, what it returned is written over.

func rightIs(t *testing.T, s hand.Side, want bool) {
	t.Helper()
	for range 2 {
		if is := hand.Right(s); is != want {
			t.Fatalf("Right(%s) = %t, want %t", showSide(s), is, want)
		}
	}
}

func askIs(t *testing.T, s hand.Side, to uint8, want hand.Msg, e api.Errno) {
	t.Helper()
	for range 2 {
		if m, is := hand.Ask(s, to); m != want || is != e {
			t.Fatalf("Ask(%s, %d) = %s, %d, want %s, %d", showSide(s), to, showMsg(m), is, showMsg(want), e)
		}
	}
}

func askFails(t *testing.T, s hand.Side, to uint8, e api.Errno) {
	t.Helper()
	askIs(t, s, to, hand.Msg{}, e)
}

func hearIs(t *testing.T, s hand.Side, m hand.Msg, want hand.Side, reply []hand.Msg, e api.Errno) {
	t.Helper()
	for range 2 {
		got, l, is := hand.Hear(s, m)
		if got != want || !slices.Equal(l, reply) || is != e {
			t.Fatalf("Hear(%s, %s) = %s, %s, %d, want %s, %s, %d", showSide(s), showMsg(m), showSide(got), showMsgs(l), is, showSide(want), showMsgs(reply), e)
		}
		writeOver(l)
	}
}

// hearFails checks an error, with which the side comes back as it was, and nothing is said.
func hearFails(t *testing.T, s hand.Side, m hand.Msg, e api.Errno) {
	t.Helper()
	hearIs(t, s, m, s, nil, e)
}

func againIs(t *testing.T, s hand.Side, want ...hand.Msg) {
	t.Helper()
	for range 2 {
		l := hand.Again(s)
		if !slices.Equal(l, want) {
			t.Fatalf("Again(%s) = %s, want %s", showSide(s), showMsgs(l), showMsgs(want))
		}
		writeOver(l)
	}
}

// writeOver writes to all the memory of a list of messages.
func writeOver(l []hand.Msg) {
	l = l[:cap(l)]
	for i := range l {
		l[i] = msg(-1, 255, 255, -1, "xx")
	}
}

func TestKinds(t *testing.T) {
	got := []int{hand.Offer, hand.Want, hand.Give, hand.Got}
	if !slices.Equal(got, []int{1, 2, 3, 4}) {
		t.Errorf("the kinds: %v", got)
	}
	// An untyped constant is of any integer type, as the chapter has it.
	small := []uint8{hand.Offer, hand.Want, hand.Give, hand.Got}
	if !slices.Equal(small, []uint8{1, 2, 3, 4}) {
		t.Errorf("the kinds as bytes: %v", small)
	}
}

// TestNumbersOfTheTests: the lists hold what their names say.
func TestNumbersOfTheTests(t *testing.T) {
	var n [4]int
	for _, s := range validSides() {
		sort := s.Lease.State
		if s.Keep {
			sort = 3
		}
		n[sort]++
	}
	// Of 3 stations, in 6 epochs, with 3 cargos, to 3 others.
	if n != [4]int{3, 54, 54, 162} {
		t.Errorf("valid sides by their sorts: %v", n)
	}
	for _, s := range wrongSides() {
		if valid(s) {
			t.Errorf("%s is valid", showSide(s))
		}
	}
	for _, m := range wrongMsgs() {
		if validMsg(m) || m.To != 1 {
			t.Errorf("%s is valid, or not to 1", showMsg(m))
		}
	}
	for _, size := range sizes() {
		if a, b := bytesOf('a', size), bytesOf('b', size); len(a) != size || len(b) != size || (a == b) != (size == 0) {
			t.Errorf("cargos of %d bytes: %s, %s", size, showCargo(a), showCargo(b))
		}
	}
}

// P12.1

func TestRightOfMe(t *testing.T) {
	for me := range 256 {
		me := uint8(me)
		rightIs(t, idles(me), me < 8)
		rightIs(t, holds(me, 5, "c"), me < 8)
		rightIs(t, gave(me, 5, 3), me < 8 && me != 3)
		rightIs(t, keeps(me, 5, 3, "c"), me < 8 && me != 3)
	}
}

func TestRightOfIdle(t *testing.T) {
	for _, me := range []uint8{0, 1, 7} {
		rightIs(t, idles(me), true)
		for _, size := range sizes() {
			rightIs(t, sideOf(me, idle, bytesOf('s', size), false), size == 0)
			rightIs(t, sideOf(me, idle, bytesOf('s', size), true), false)
		}
		for _, epoch := range []int{-1, 1, 5, last} {
			rightIs(t, sideOf(me, leaseOf(epoch, lease.Idle, 0), "", false), false)
		}
		for _, to := range []uint8{1, 7, 8, 255} {
			rightIs(t, sideOf(me, leaseOf(0, lease.Idle, to), "", false), false)
		}
	}
}

func TestRightOfHeld(t *testing.T) {
	for _, me := range []uint8{0, 1, 7} {
		for _, epoch := range epochs() {
			for _, size := range sizes() {
				rightIs(t, holds(me, epoch, bytesOf('s', size)), epoch >= 1 && epoch <= last && size <= 500)
				rightIs(t, sideOf(me, held(epoch), bytesOf('s', size), true), false)
			}
			for _, to := range []uint8{1, 7, 8, 255} {
				rightIs(t, sideOf(me, leaseOf(epoch, lease.Held, to), "c", false), false)
			}
		}
	}
}

func TestRightOfGone(t *testing.T) {
	for _, me := range []uint8{0, 1, 7} {
		for _, epoch := range epochs() {
			for to := range 256 {
				may := epoch >= 1 && epoch <= last && to < 8 && uint8(to) != me
				for _, size := range []int{0, 1, 500, 501} {
					rightIs(t, sideOf(me, gone(epoch, uint8(to)), bytesOf('s', size), false), may && size == 0)
					rightIs(t, keeps(me, epoch, uint8(to), bytesOf('s', size)), may && size <= 500)
				}
			}
		}
	}
}

func TestRightOfOtherStates(t *testing.T) {
	for _, state := range []int{math.MinInt, -255, -1, 3, 4, 256, 257, 258, math.MaxInt} {
		for _, epoch := range []int{0, 1, 5, last} {
			for _, to := range []uint8{0, 7} {
				rightIs(t, sideOf(1, leaseOf(epoch, state, to), "", false), false)
				rightIs(t, sideOf(1, leaseOf(epoch, state, to), "c", false), false)
				rightIs(t, sideOf(1, leaseOf(epoch, state, to), "c", true), false)
			}
		}
	}
}

// TestCargoIsBytes: a cargo is counted in bytes, whatever they are.
func TestCargoIsBytes(t *testing.T) {
	for _, c := range []struct {
		cargo string
		want  bool
	}{
		{strings.Repeat("\u00fc", 250), true},
		{strings.Repeat("\u00fc", 250) + "x", false},
		{strings.Repeat("\u00fc", 500), false},
		{strings.Repeat("\xff", 500), true},
		{strings.Repeat("\x00", 500), true},
		{strings.Repeat("\x00", 501), false},
	} {
		rightIs(t, holds(1, 5, c.cargo), c.want)
		rightIs(t, keeps(1, 5, 2, c.cargo), c.want)
		if c.want {
			hearIs(t, idles(1), msg(hand.Give, 2, 1, 5, c.cargo), holds(1, 5, c.cargo), []hand.Msg{msg(hand.Got, 1, 2, 5, "")}, api.OK)
		} else {
			hearFails(t, idles(1), msg(hand.Give, 2, 1, 5, c.cargo), api.ErrArg)
		}
	}
	rightIs(t, sideOf(1, idle, "\x00", false), false)
	hearFails(t, idles(1), msg(hand.Offer, 2, 1, 5, "\x00"), api.ErrArg)
}

func TestRightOfWrongSides(t *testing.T) {
	for _, s := range wrongSides() {
		rightIs(t, s, false)
	}
}

func TestRightOfAll(t *testing.T) {
	for _, s := range allSides() {
		rightIs(t, s, valid(s))
	}
	for _, s := range validSides() {
		rightIs(t, s, true)
	}
}

func TestAsk(t *testing.T) {
	for _, epoch := range []int{1, 2, 5, 500000, last - 1} {
		for _, size := range []int{0, 1, 500} {
			s := holds(3, epoch, bytesOf('s', size))
			for _, to := range []uint8{0, 1, 2, 4, 6, 7} {
				askIs(t, s, to, msg(hand.Offer, 3, to, epoch, ""), api.OK)
			}
			for _, to := range []uint8{3, 8, 9, 128, 255} {
				askFails(t, s, to, api.ErrArg)
			}
		}
	}
	askIs(t, holds(0, 1, "c"), 7, msg(hand.Offer, 0, 7, 1, ""), api.OK)
	askIs(t, holds(7, 1, "c"), 0, msg(hand.Offer, 7, 0, 1, ""), api.OK)
	askFails(t, holds(0, 1, "c"), 0, api.ErrArg)
	askFails(t, holds(7, 1, "c"), 7, api.ErrArg)
}

func TestAskOfNone(t *testing.T) {
	for _, to := range []uint8{0, 1, 2, 7} {
		askFails(t, idles(3), to, api.ErrNone)
		for _, epoch := range []int{1, 5, last - 1, last} {
			for _, at := range []uint8{0, 2, 7} {
				askFails(t, gave(3, epoch, at), to, api.ErrNone)
				askFails(t, keeps(3, epoch, at, ""), to, api.ErrNone)
				askFails(t, keeps(3, epoch, at, "c"), to, api.ErrNone)
			}
		}
	}
}

func TestAskInTheLastEpoch(t *testing.T) {
	for _, size := range []int{0, 1, 500} {
		for _, to := range []uint8{0, 1, 2, 7} {
			askFails(t, holds(3, last, bytesOf('s', size)), to, api.ErrBig)
			askIs(t, holds(3, last-1, bytesOf('s', size)), to, msg(hand.Offer, 3, to, last-1, ""), api.OK)
		}
	}
}

func TestAskOfWrongSides(t *testing.T) {
	for _, s := range wrongSides() {
		for to := range 256 {
			askFails(t, s, uint8(to), api.ErrArg)
		}
	}
}

func TestAskOfAll(t *testing.T) {
	for _, s := range allSides() {
		for _, to := range stations() {
			want, e := plainAsk(s, to)
			askIs(t, s, to, want, e)
		}
	}
	for _, s := range validSides() {
		for to := range 256 {
			want, e := plainAsk(s, uint8(to))
			askIs(t, s, uint8(to), want, e)
		}
	}
}

// TestFirstErrorOfAsk: R2.
func TestFirstErrorOfAsk(t *testing.T) {
	// ErrArg comes ahead of ErrNone.
	askFails(t, idles(1), 1, api.ErrArg)
	askFails(t, idles(1), 8, api.ErrArg)
	askFails(t, gave(1, 5, 2), 1, api.ErrArg)
	askFails(t, keeps(1, 5, 2, "c"), 255, api.ErrArg)
	askFails(t, idles(8), 2, api.ErrArg)
	askFails(t, gave(1, 5, 1), 2, api.ErrArg)
	askFails(t, sideOf(1, idle, "c", false), 2, api.ErrArg)
	// ErrArg comes ahead of ErrBig.
	askFails(t, holds(1, last, "c"), 1, api.ErrArg)
	askFails(t, holds(1, last, "c"), 8, api.ErrArg)
	askFails(t, holds(8, last, "c"), 2, api.ErrArg)
	askFails(t, holds(1, last, bytesOf('s', 501)), 2, api.ErrArg)
	askFails(t, sideOf(1, held(last), "c", true), 2, api.ErrArg)
	// ErrNone comes ahead of ErrBig.
	askFails(t, gave(1, last, 2), 2, api.ErrNone)
	askFails(t, keeps(1, last, 2, "c"), 3, api.ErrNone)
}

// P12.3

func TestAgain(t *testing.T) {
	for _, epoch := range []int{1, 2, 5, last - 2, last - 1} {
		for _, size := range []int{0, 1, 500} {
			cargo := bytesOf('s', size)
			againIs(t, keeps(3, epoch, 0, cargo), msg(hand.Give, 3, 0, epoch+1, cargo))
			againIs(t, keeps(3, epoch, 7, cargo), msg(hand.Give, 3, 7, epoch+1, cargo))
			againIs(t, keeps(0, epoch, 7, cargo), msg(hand.Give, 0, 7, epoch+1, cargo))
			againIs(t, keeps(7, epoch, 0, cargo), msg(hand.Give, 7, 0, epoch+1, cargo))
			againIs(t, holds(3, epoch, cargo))
		}
		againIs(t, gave(3, epoch, 0))
		againIs(t, gave(3, epoch, 7))
	}
	againIs(t, idles(3))
}

// TestAgainInTheLastEpoch: no handoff leads to such a side, but it is valid, and the chapter makes no exception for it.
func TestAgainInTheLastEpoch(t *testing.T) {
	againIs(t, keeps(3, last, 4, "c"), msg(hand.Give, 3, 4, last+1, "c"))
	againIs(t, gave(3, last, 4))
	againIs(t, holds(3, last, "c"))
}

func TestAgainOfWrongSides(t *testing.T) {
	for _, s := range wrongSides() {
		againIs(t, s)
		s.Keep = !s.Keep
		againIs(t, s, plainAgain(s)...)
	}
}

func TestAgainOfAll(t *testing.T) {
	for _, s := range append(allSides(), validSides()...) {
		againIs(t, s, plainAgain(s)...)
	}
}

// TestAgainIsTheReply: what is said again is what was said to Want, also when that comes once more.
func TestAgainIsTheReply(t *testing.T) {
	for _, size := range []int{0, 1, 500} {
		s, first, e := hand.Hear(holds(1, 5, bytesOf('s', size)), msg(hand.Want, 2, 1, 5, ""))
		if e != api.OK || len(first) != 1 {
			t.Fatalf("Want: %s, %d", showMsgs(first), e)
		}
		for range 3 {
			againIs(t, s, first...)
			hearIs(t, s, msg(hand.Want, 2, 1, 5, ""), s, first, api.OK)
		}
	}
}

// TestMemory: R6. Results do not share memory, with each other or with a later one.
func TestMemory(t *testing.T) {
	kept := keeps(1, 5, 2, "c")
	give := msg(hand.Give, 1, 2, 6, "c")
	calls := []struct {
		name string
		call func() []hand.Msg
		want hand.Msg
	}{
		{"Again", func() []hand.Msg { return hand.Again(kept) }, give},
		{"Offer", func() []hand.Msg { return replies(idles(1), msg(hand.Offer, 2, 1, 5, "")) }, msg(hand.Want, 1, 2, 5, "")},
		{"Want", func() []hand.Msg { return replies(holds(1, 5, "c"), msg(hand.Want, 2, 1, 5, "")) }, give},
		{"Want again", func() []hand.Msg { return replies(kept, msg(hand.Want, 2, 1, 5, "")) }, give},
		{"Give", func() []hand.Msg { return replies(idles(1), msg(hand.Give, 2, 1, 5, "c")) }, msg(hand.Got, 1, 2, 5, "")},
		{"Give again", func() []hand.Msg { return replies(holds(1, 5, "c"), msg(hand.Give, 2, 1, 5, "c")) }, msg(hand.Got, 1, 2, 5, "")},
	}
	var results [][]hand.Msg
	for range 3 {
		for _, c := range calls {
			results = append(results, c.call())
		}
	}
	for i, l := range results {
		if c := calls[i%len(calls)]; !slices.Equal(l, []hand.Msg{c.want}) {
			t.Fatalf("%s: %s, after other results were written over", c.name, showMsgs(l))
		}
		writeOver(l)
		_ = append(l, msg(9, 9, 9, 9, "y"))
	}
	for _, c := range calls {
		if l := c.call(); !slices.Equal(l, []hand.Msg{c.want}) {
			t.Fatalf("%s: %s, after all results were written over", c.name, showMsgs(l))
		}
	}
}

func replies(s hand.Side, m hand.Msg) []hand.Msg {
	_, l, _ := hand.Hear(s, m)
	return l
}
