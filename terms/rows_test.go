package terms_test

import (
	"math"
	"testing"

	"waystation/api"
	"waystation/terms"
)

// P13.5, in rows of Extend.

// row is terms, what they were at first, and how often they were extended.
type row struct {
	first, at terms.Terms
	times     int
}

func begin(x terms.Terms) row { return row{first: x, at: x} }

// extend makes a call, and checks what P13.5 says of the row so far.
func (r *row) extend(t *testing.T, now int64) api.Errno {
	t.Helper()
	next, e := terms.Extend(r.at, now)
	want, wantErr := plainExtend(r.at, now)
	if next != want || e != wantErr {
		t.Fatalf("from %s on: Extend(%s, %d) = %s, %d, want %s, %d", show(r.first), show(r.at), now, show(next), e, show(want), wantErr)
	}
	if e == api.OK {
		r.times++
	}
	r.at = next
	r.check(t)
	return e
}

func (r *row) check(t *testing.T) {
	t.Helper()
	last := terms.Last(r.at)
	switch {
	case !terms.Right(r.at):
		t.Fatalf("%s became %s, which is not valid", show(r.first), show(r.at))
	case last != plainLast(r.first):
		t.Fatalf("%s became %s, and Last went from %d to %d", show(r.first), show(r.at), plainLast(r.first), last)
	case r.at.Deadline > last:
		t.Fatalf("%s became %s, with a Last of %d", show(r.first), show(r.at), last)
	case r.at.Used != r.first.Used+r.times || r.times > r.first.Cap-r.first.Used:
		t.Fatalf("%s became %s by %d extensions", show(r.first), show(r.at), r.times)
	case r.at.Deadline != r.first.Deadline+int64(r.times)*r.first.Span:
		t.Fatalf("%s became %s by %d extensions", show(r.first), show(r.at), r.times)
	case r.at.Span != r.first.Span || r.at.Cap != r.first.Cap:
		t.Fatalf("%s became %s", show(r.first), show(r.at))
	}
}

// TestAsOftenAsMayBe: all valid terms can be extended until their deadline is Last, and no more.
func TestAsOftenAsMayBe(t *testing.T) {
	for x := range validTerms {
		r := begin(x)
		for range x.Cap - x.Used {
			if e := r.extend(t, r.at.Deadline-1); e != api.OK {
				t.Fatalf("from %s on: Extend(%s) at the last moment = %d", show(x), show(r.at), e)
			}
		}
		for range 3 {
			if e := r.extend(t, r.at.Deadline-1); e != api.ErrCap || r.at.Deadline != plainLast(x) {
				t.Fatalf("from %s on: %s, %d", show(x), show(r.at), e)
			}
		}
		if e := r.extend(t, r.at.Deadline); e != api.ErrLate {
			t.Fatalf("from %s on: Extend(%s) at the deadline = %d", show(x), show(r.at), e)
		}
	}
}

// TestFromNewOn: the deadline of new terms can be put off to the moment that ErrBig goes by, and no further.
func TestFromNewOn(t *testing.T) {
	for _, span := range []int64{1, 5, 1000, lastSpan - 1, lastSpan} {
		for _, most := range []int{0, 1, 2, 3, 50, 99, 100} {
			end := int64(most+1) * span
			for _, now := range []int64{0, 1, 1000, lastTick - end - 1, lastTick - end} {
				x, e := terms.New(now, span, most)
				if e != api.OK {
					t.Fatalf("New(%d, %d, %d) = %d", now, span, most, e)
				}
				r := begin(x)
				times := 0
				for r.extend(t, now) == api.OK {
					times++
				}
				if times != most || r.at != of(now+end, span, most, most) {
					t.Fatalf("New(%d, %d, %d) became %s by %d extensions", now, span, most, show(r.at), times)
				}
			}
		}
	}
}

// everyRow goes through all rows of calls ahead of a deadline, at it and behind it.
func everyRow(t *testing.T, r row, left int) {
	t.Helper()
	if left == 0 {
		return
	}
	d := r.at.Deadline
	for _, now := range []int64{math.MinInt64, d - r.at.Span - 1, d - 1, d, d + 1, d + r.at.Span, math.MaxInt64} {
		next := r
		next.extend(t, now)
		everyRow(t, next, left-1)
	}
}

func TestEveryRow(t *testing.T) {
	for _, x := range []terms.Terms{
		of(15, 5, 0, 2), of(15, 5, 0, 0), of(15, 5, 1, 3), of(1, 1, 0, 100), of(1, 1, 98, 100),
		of(lastSpan, lastSpan, 0, 3), of(lastTick, lastSpan, 0, 0), of(lastTick-2, 1, 98, 100), of(lastTick-3*lastSpan, lastSpan, 0, 3),
	} {
		everyRow(t, begin(x), 5)
	}
}

// source makes numbers that are the same in each run.
type source uint64

func (s *source) next(below int) int {
	*s = *s*6364136223846793005 + 1442695040888963407
	return int(uint64(*s) >> 33 % uint64(below))
}

// TestLongRows: a clock goes on, and the terms are extended at times, until it is too late.
func TestLongRows(t *testing.T) {
	from := source(1)
	seen := map[api.Errno]int{}
	for range 3000 {
		span := int64(from.next(lastSpan) + 1)
		most := from.next(101)
		now := int64(from.next(lastSpan)) << from.next(20)
		x, e := terms.New(now, span, most)
		if e != api.OK {
			t.Fatalf("New(%d, %d, %d) = %d", now, span, most, e)
		}
		r := begin(x)
		for e != api.ErrLate {
			now += int64(from.next(int(span))) * int64(from.next(30)) / 20
			if from.next(30) == 0 {
				now = r.at.Deadline + int64(from.next(2)) - 1
			}
			e = r.extend(t, now)
			seen[e]++
		}
		if !terms.Over(r.at, now) || !terms.Over(r.at, plainLast(x)) {
			t.Fatalf("%s is not over at %d", show(r.at), now)
		}
	}
	for _, e := range []api.Errno{api.OK, api.ErrLate, api.ErrCap} {
		if seen[e] < 1000 {
			t.Errorf("%d calls returned %d", seen[e], e)
		}
	}
}

// TestOverAtLast: at Last all terms are over, however often they were extended; what comes after can't open them again.
func TestOverAtLast(t *testing.T) {
	for x := range validTerms {
		last := terms.Last(x)
		r := begin(x)
		for {
			if !terms.Over(r.at, last) || terms.Over(r.at, r.at.Deadline-1) {
				t.Fatalf("from %s on: Over(%s)", show(x), show(r.at))
			}
			late := r
			if e := late.extend(t, last); e != api.ErrLate {
				t.Fatalf("from %s on: Extend(%s) at %d = %d", show(x), show(r.at), last, e)
			}
			if r.extend(t, r.at.Deadline-1) != api.OK {
				break
			}
		}
	}
}
