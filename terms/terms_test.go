package terms_test

import (
	"math"
	"slices"
	"testing"

	"waystation/api"
	"waystation/terms"
)

// The calls, each made twice: what it answers hangs on its arguments alone.

func rightIs(t *testing.T, x terms.Terms, want bool) {
	t.Helper()
	for range 2 {
		if is := terms.Right(x); is != want {
			t.Fatalf("Right(%s) = %t, want %t", show(x), is, want)
		}
	}
}

func overIs(t *testing.T, x terms.Terms, now int64, want bool) {
	t.Helper()
	for range 2 {
		if is := terms.Over(x, now); is != want {
			t.Fatalf("Over(%s, %d) = %t, want %t", show(x), now, is, want)
		}
	}
}

func lastIs(t *testing.T, x terms.Terms, want int64) {
	t.Helper()
	for range 2 {
		if n := terms.Last(x); n != want {
			t.Fatalf("Last(%s) = %d, want %d", show(x), n, want)
		}
	}
}

func newIs(t *testing.T, now, span int64, most int, want terms.Terms, e api.Errno) {
	t.Helper()
	for range 2 {
		if x, is := terms.New(now, span, most); x != want || is != e {
			t.Fatalf("New(%d, %d, %d) = %s, %d, want %s, %d", now, span, most, show(x), is, show(want), e)
		}
	}
}

func newFails(t *testing.T, now, span int64, most int, e api.Errno) {
	t.Helper()
	newIs(t, now, span, most, terms.Terms{}, e)
}

func extendIs(t *testing.T, x terms.Terms, now int64, want terms.Terms, e api.Errno) {
	t.Helper()
	for range 2 {
		if got, is := terms.Extend(x, now); got != want || is != e {
			t.Fatalf("Extend(%s, %d) = %s, %d, want %s, %d", show(x), now, show(got), is, show(want), e)
		}
	}
}

// extendFails checks an error, with which the terms come back as they were.
func extendFails(t *testing.T, x terms.Terms, now int64, e api.Errno) {
	t.Helper()
	extendIs(t, x, now, x, e)
}

func TestExample(t *testing.T) {
	x, e := terms.New(10, 5, 2)
	if x != of(15, 5, 0, 2) || e != api.OK {
		t.Fatalf("New(10, 5, 2) = %s, %d", show(x), e)
	}
	lastIs(t, x, 25)
	extendIs(t, x, 14, of(20, 5, 1, 2), api.OK)
	extendFails(t, x, 15, api.ErrLate)
	y, _ := terms.Extend(x, 14)
	extendIs(t, y, 14, of(25, 5, 2, 2), api.OK)
	extendIs(t, y, 15, of(25, 5, 2, 2), api.OK)
}

// TestNumbersOfTheTests: the lists hold valid terms, those that no sentence but one rules out, and others.
func TestNumbersOfTheTests(t *testing.T) {
	all, good, atTheEnd, oneAbove := 0, 0, 0, 0
	for x := range allTerms {
		all++
		if valid(x) {
			good++
			if plainLast(x) == lastTick {
				atTheEnd++
			}
		}
		before := x
		before.Deadline--
		if !valid(x) && x.Used < x.Cap && valid(before) && plainLast(before) == lastTick {
			oneAbove++
		}
	}
	// 7 of the spans are in range, and 28 pairs of Used and Cap, in 21 of which Used is below Cap.
	if all < 500000 || good < 2000 || atTheEnd < 7*28 || oneAbove < 7*21 {
		t.Errorf("%d terms: %d valid, %d of them with the greatest Last, and %d one above that", all, good, atTheEnd, oneAbove)
	}
	for _, x := range wrongTerms() {
		if valid(x) {
			t.Errorf("%s is valid", show(x))
		}
	}
}

// P13.1

func TestRight(t *testing.T) {
	for _, x := range []terms.Terms{
		of(15, 5, 0, 2), of(20, 5, 1, 2), of(25, 5, 2, 2),
		of(1, 1, 0, 0), of(1, 1, 0, 100), of(1, 1, 100, 100), of(5, 5, 0, 0), of(lastSpan, lastSpan, 0, 100),
		of(lastTick, 1, 0, 0), of(lastTick, 1, 100, 100), of(lastTick, lastSpan, 0, 0), of(lastTick, lastSpan, 100, 100),
	} {
		rightIs(t, x, true)
	}
	for _, x := range wrongTerms() {
		rightIs(t, x, false)
	}
}

func TestRightBySpan(t *testing.T) {
	for _, span := range []int64{1, 2, 1000, lastSpan - 1, lastSpan} {
		rightIs(t, of(lastTick/2, span, 0, 100), true)
	}
	for _, span := range []int64{math.MinInt64, -lastSpan, -1, 0, lastSpan + 1, 2 * lastSpan, 1 << 32, 1<<32 + 1, math.MaxInt64} {
		rightIs(t, of(lastTick/2, span, 0, 100), false)
		rightIs(t, of(lastTick/2, span, 100, 100), false)
		rightIs(t, of(span, span, 0, 0), false)
	}
}

func TestRightByCapAndUsed(t *testing.T) {
	for most := range lastCap + 1 {
		for used := range most + 1 {
			rightIs(t, of(1000, 5, used, most), true)
		}
		for _, used := range []int{math.MinInt, -256, -1, most + 1, most + 2, most + 256, math.MaxInt} {
			rightIs(t, of(1000, 5, used, most), false)
		}
	}
	for _, most := range []int{math.MinInt, -100, -1, 101, 102, 256, math.MaxInt} {
		for _, used := range []int{math.MinInt, -1, 0, 1, most - 1, most, math.MaxInt} {
			rightIs(t, of(1000, 5, used, most), false)
		}
	}
}

func TestRightByDeadline(t *testing.T) {
	for _, span := range []int64{1, 2, 5, lastSpan} {
		// Terms that may be put off no more may have any deadline from the first to the last.
		for _, most := range []int{0, 1, 100} {
			for _, deadline := range []int64{span, span + 1, lastTick - 1, lastTick} {
				rightIs(t, of(deadline, span, most, most), true)
			}
			for _, deadline := range []int64{math.MinInt64, -span, -1, 0, span - 1, lastTick + 1, math.MaxInt64} {
				rightIs(t, of(deadline, span, most, most), false)
			}
		}
		for _, left := range []int{1, 2, 99, 100} {
			edge := lastTick - int64(left)*span
			for _, used := range []int{0, lastCap - left} {
				rightIs(t, of(edge-1, span, used, used+left), true)
				rightIs(t, of(edge, span, used, used+left), true)
				rightIs(t, of(edge+1, span, used, used+left), false)
				rightIs(t, of(span, span, used, used+left), true)
				rightIs(t, of(span-1, span, used, used+left), false)
			}
		}
	}
}

func TestRightOfAll(t *testing.T) {
	for x := range allTerms {
		rightIs(t, x, valid(x))
	}
}

func TestOver(t *testing.T) {
	for _, x := range []terms.Terms{of(15, 5, 0, 2), of(15, 5, 2, 2), of(1, 1, 0, 100), of(lastTick, 1, 0, 0), of(lastTick-lastSpan, lastSpan, 99, 100)} {
		for _, now := range []int64{math.MinInt64, -x.Deadline, -1, 0, x.Deadline - 1} {
			overIs(t, x, now, false)
		}
		for _, now := range []int64{x.Deadline, x.Deadline + 1, terms.Last(x), lastTick, lastTick + 1, math.MaxInt64} {
			overIs(t, x, now, true)
		}
	}
}

func TestOverOfWrongTerms(t *testing.T) {
	for _, x := range wrongTerms() {
		for _, now := range momentsOf(x) {
			overIs(t, x, now, false)
		}
	}
}

func TestOverOfAll(t *testing.T) {
	for x := range allTerms {
		for _, now := range beside(x.Deadline) {
			overIs(t, x, now, plainOver(x, now))
		}
	}
	for x := range validTerms {
		for _, now := range momentsOf(x) {
			overIs(t, x, now, plainOver(x, now))
		}
	}
}

func TestLast(t *testing.T) {
	lastIs(t, of(15, 5, 0, 2), 25)
	lastIs(t, of(15, 5, 1, 2), 20)
	lastIs(t, of(15, 5, 2, 2), 15)
	lastIs(t, of(15, 5, 0, 0), 15)
	lastIs(t, of(1, 1, 0, 100), 101)
	lastIs(t, of(lastSpan, lastSpan, 0, 100), 101*lastSpan)
	lastIs(t, of(lastSpan, lastSpan, 40, 100), 61*lastSpan)
	lastIs(t, of(lastTick, 7, 3, 3), lastTick)
	lastIs(t, of(lastTick-7, 7, 2, 3), lastTick)
	lastIs(t, of(lastTick-100*lastSpan, lastSpan, 0, 100), lastTick)
	lastIs(t, of(lastTick-100*lastSpan-1, lastSpan, 0, 100), lastTick-1)
}

func TestLastOfWrongTerms(t *testing.T) {
	for _, x := range wrongTerms() {
		lastIs(t, x, 0)
	}
}

func TestLastOfAll(t *testing.T) {
	for x := range allTerms {
		lastIs(t, x, plainLast(x))
	}
}

// P13.3

func TestNew(t *testing.T) {
	newIs(t, 10, 5, 2, of(15, 5, 0, 2), api.OK)
	newIs(t, 0, 1, 0, of(1, 1, 0, 0), api.OK)
	newIs(t, 0, 1, 100, of(1, 1, 0, 100), api.OK)
	newIs(t, 0, lastSpan, 100, of(lastSpan, lastSpan, 0, 100), api.OK)
	newIs(t, 7, lastSpan, 0, of(lastSpan+7, lastSpan, 0, 0), api.OK)
	newIs(t, lastTick-1, 1, 0, of(lastTick, 1, 0, 0), api.OK)
}

func TestNewOutOfRange(t *testing.T) {
	for _, now := range []int64{math.MinInt64, -lastTick, -5, -1, lastTick + 1, 2 * lastTick, math.MaxInt64} {
		newFails(t, now, 1, 0, api.ErrArg)
		newFails(t, now, lastSpan, 100, api.ErrArg)
	}
	for _, span := range []int64{math.MinInt64, -lastSpan, -1, 0, lastSpan + 1, 1 << 32, 1<<32 + 1, 1 << 62, math.MaxInt64} {
		newFails(t, 0, span, 0, api.ErrArg)
		newFails(t, 10, span, 3, api.ErrArg)
	}
	for _, most := range []int{math.MinInt, -101, -2, -1, 101, 102, 256, 65536, math.MaxInt - 1, math.MaxInt} {
		newFails(t, 0, 1, most, api.ErrArg)
		newFails(t, 10, lastSpan, most, api.ErrArg)
	}
}

func TestNewTooBig(t *testing.T) {
	for _, span := range []int64{1, 2, 5, lastSpan - 1, lastSpan} {
		for _, most := range []int{0, 1, 2, 99, 100} {
			edge := lastTick - int64(most+1)*span
			newIs(t, edge-1, span, most, of(edge-1+span, span, 0, most), api.OK)
			newIs(t, edge, span, most, of(edge+span, span, 0, most), api.OK)
			newFails(t, edge+1, span, most, api.ErrBig)
			newFails(t, lastTick, span, most, api.ErrBig)
		}
	}
}

func TestNewOfAll(t *testing.T) {
	for _, span := range spans() {
		for _, most := range counts() {
			for _, now := range deadlines(span, 0, most) {
				want, e := plainNew(now, span, most)
				newIs(t, now, span, most, want, e)
				if e == api.OK {
					rightIs(t, want, true)
					lastIs(t, want, now+int64(most+1)*span)
				}
			}
		}
	}
}

// P13.4

func TestExtend(t *testing.T) {
	extendIs(t, of(15, 5, 0, 2), 0, of(20, 5, 1, 2), api.OK)
	extendIs(t, of(15, 5, 0, 2), 14, of(20, 5, 1, 2), api.OK)
	extendIs(t, of(15, 5, 1, 2), -1, of(20, 5, 2, 2), api.OK)
	extendIs(t, of(15, 5, 1, 2), math.MinInt64, of(20, 5, 2, 2), api.OK)
	extendIs(t, of(1, 1, 0, 1), 0, of(2, 1, 1, 1), api.OK)
	extendIs(t, of(lastTick-1, 1, 99, 100), lastTick-2, of(lastTick, 1, 100, 100), api.OK)
	extendIs(t, of(lastTick-lastSpan, lastSpan, 0, 1), 10, of(lastTick, lastSpan, 1, 1), api.OK)
}

func TestExtendTooLate(t *testing.T) {
	for _, x := range []terms.Terms{of(15, 5, 0, 2), of(15, 5, 1, 2), of(1, 1, 0, 100), of(lastTick-lastSpan, lastSpan, 99, 100)} {
		for _, now := range []int64{x.Deadline, x.Deadline + 1, x.Deadline + x.Span, terms.Last(x), lastTick, math.MaxInt64} {
			extendFails(t, x, now, api.ErrLate)
		}
		next := of(x.Deadline+x.Span, x.Span, x.Used+1, x.Cap)
		extendIs(t, x, x.Deadline-1, next, api.OK)
	}
}

func TestExtendAtTheCap(t *testing.T) {
	for _, x := range []terms.Terms{of(15, 5, 2, 2), of(15, 5, 0, 0), of(15, 5, 100, 100), of(lastTick, lastSpan, 1, 1)} {
		for _, now := range []int64{math.MinInt64, -1, 0, x.Deadline - 1} {
			extendFails(t, x, now, api.ErrCap)
		}
	}
}

func TestExtendOfWrongTerms(t *testing.T) {
	for _, x := range wrongTerms() {
		for _, now := range momentsOf(x) {
			extendFails(t, x, now, api.ErrArg)
		}
	}
}

func TestExtendOfAll(t *testing.T) {
	for x := range allTerms {
		for _, now := range beside(x.Deadline) {
			want, e := plainExtend(x, now)
			extendIs(t, x, now, want, e)
		}
	}
	for x := range validTerms {
		for _, now := range momentsOf(x) {
			want, e := plainExtend(x, now)
			extendIs(t, x, now, want, e)
		}
	}
}

// TestFirstError: R2.
func TestFirstError(t *testing.T) {
	// ErrArg comes ahead of ErrNone.
	for _, x := range [][2]int64{{0, 10}, {5, 4}, {1, lastSpan + 1}, {math.MinInt64, math.MaxInt64}} {
		agreeFails(t, nil, x[0], x[1], api.ErrArg)
		agreeFails(t, []int64{}, x[0], x[1], api.ErrArg)
	}
	// ErrArg comes ahead of ErrBig.
	newFails(t, lastTick, 0, 100, api.ErrArg)
	newFails(t, lastTick, lastSpan+1, 0, api.ErrArg)
	newFails(t, lastTick, lastSpan, 101, api.ErrArg)
	newFails(t, lastTick, lastSpan, -1, api.ErrArg)
	newFails(t, lastTick+1, lastSpan, 100, api.ErrArg)
	newFails(t, math.MaxInt64, math.MaxInt64, math.MaxInt, api.ErrArg)
	// ErrArg comes ahead of ErrLate and ErrCap.
	extendFails(t, of(4, 5, 0, 2), 4, api.ErrArg)
	extendFails(t, of(4, 5, 2, 2), 3, api.ErrArg)
	extendFails(t, of(lastTick+1, 5, 2, 2), math.MaxInt64, api.ErrArg)
	extendFails(t, terms.Terms{}, 0, api.ErrArg)
	extendFails(t, terms.Terms{}, -1, api.ErrArg)
	// ErrLate comes ahead of ErrCap.
	extendFails(t, of(15, 5, 2, 2), 15, api.ErrLate)
	extendFails(t, of(15, 5, 0, 0), 16, api.ErrLate)
	extendFails(t, of(lastTick, lastSpan, 100, 100), lastTick, api.ErrLate)
	extendFails(t, of(lastTick, 1, 0, 0), math.MaxInt64, api.ErrLate)
}

// TestErrors: the numbers that the errors of this layer have.
func TestErrors(t *testing.T) {
	got := []api.Errno{api.OK, api.ErrArg, api.ErrBig, api.ErrNone, api.ErrLate, api.ErrCap}
	if !slices.Equal(got, []api.Errno{0, 2, 3, 7, 11, 12}) {
		t.Errorf("the errors: %v", got)
	}
}
