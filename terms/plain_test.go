package terms_test

import (
	"fmt"
	"math"
	"math/big"
	"slices"

	"waystation/api"
	"waystation/terms"
)

// The limits are written as numbers, so that the tests do not go by the program's own ones.
const (
	lastTick = 1099511627776
	lastSpan = 1048576
	lastCap  = 100
)

// of is terms of any fields, valid or not.
func of(deadline, span int64, used, most int) terms.Terms {
	return terms.Terms{Deadline: deadline, Span: span, Used: used, Cap: most}
}

func show(t terms.Terms) string {
	return fmt.Sprintf("{%d %d %d %d}", t.Deadline, t.Span, t.Used, t.Cap)
}

// The numbers that the terms and the arguments of the tests are made of: the edges, those beside them, some that would be in range if they were cut short, and some whose products would be if they wrapped around.

func spans() []int64 {
	l := []int64{math.MinInt64, math.MinInt64 + 1, -lastSpan, -2, -1, 0, 1, 2, 3, 5, 1000}
	l = append(l, lastSpan-1, lastSpan, lastSpan+1, 1<<31, 1<<32, 1<<32+5, lastTick, 1<<58, 1<<60, 1<<61, 1<<62, 1<<63-1<<20)
	return append(l, math.MaxInt64/101, math.MaxInt64/100, math.MaxInt64/2+1, math.MaxInt64-1, math.MaxInt64)
}

func counts() []int {
	l := []int{math.MinInt, math.MinInt + 1, -256, -101, -100, -2, -1, 0, 1, 2, 3, 50, 99, 100, 101, 102, 200, 255, 256, 257, 65536, math.MaxInt32, math.MaxInt - 1, math.MaxInt}
	for _, n := range []int64{1<<32 - 1, 1 << 32, 1<<32 + 5, 1 << 62} {
		l = append(l, int(n))
	}
	return l
}

func moments() []int64 {
	l := []int64{math.MinInt64, math.MinInt64 + 1, -lastTick, -1 << 32, -2, -1, 0, 1, 2, 5, 10, 1000, lastSpan, 1 << 32}
	l = append(l, lastTick-lastSpan*101, lastTick-1000, lastTick-2, lastTick-1, lastTick, lastTick+1, lastTick+2, 2*lastTick)
	return append(l, math.MaxInt64-lastSpan, math.MaxInt64-1, math.MaxInt64)
}

// beside are a number, the one below it, and the one above it. Beside an end they wrap around, which leaves them numbers to try.
func beside(n int64) []int64 { return []int64{n - 1, n, n + 1} }

func distinct(l []int64) []int64 {
	slices.Sort(l)
	return slices.Compact(l)
}

// deadlines are all moments, and those at the edges for terms with these other fields.
func deadlines(span int64, used, most int) []int64 {
	l := append(moments(), beside(span)...)
	if inRange(int64(used), 0, lastCap) && inRange(int64(most), 0, lastCap) {
		l = append(l, beside(lastTick-int64(most-used)*span)...)
		l = append(l, beside(lastTick-int64(most-used)*span-span)...)
	}
	return distinct(l)
}

// allTerms are those of all these numbers, valid or not.
func allTerms(yield func(terms.Terms) bool) {
	for _, span := range spans() {
		for _, used := range counts() {
			for _, most := range counts() {
				for _, deadline := range deadlines(span, used, most) {
					if !yield(of(deadline, span, used, most)) {
						return
					}
				}
			}
		}
	}
}

func validTerms(yield func(terms.Terms) bool) {
	for t := range allTerms {
		if valid(t) && !yield(t) {
			return
		}
	}
}

// momentsOf are all moments, and those beside a deadline, the next one and the last one.
func momentsOf(t terms.Terms) []int64 {
	l := append(moments(), beside(t.Deadline)...)
	l = append(l, beside(t.Deadline+t.Span)...)
	return distinct(append(l, beside(terms.Last(t))...))
}

// wrongTerms are some that are not valid, most of them for one reason alone.
func wrongTerms() []terms.Terms {
	return []terms.Terms{
		{},
		of(10, 0, 0, 2), of(10, -1, 0, 2), of(2*lastSpan, lastSpan+1, 0, 2), of(10, math.MinInt64, 0, 2), of(math.MaxInt64, math.MaxInt64, 0, 0), of(0, 0, 0, 0), of(-5, -5, 0, 0),
		of(10, 5, 0, -1), of(10, 5, 0, 101), of(10, 5, 101, 101), of(10, 5, 0, math.MinInt), of(10, 5, 0, math.MaxInt), of(10, 5, -1, -1), of(10, 5, -2, -1),
		of(10, 5, -1, 2), of(10, 5, 3, 2), of(10, 5, 1, 0), of(10, 5, 101, 100), of(10, 5, math.MinInt, 2), of(10, 5, math.MaxInt, 2), of(10, 5, math.MaxInt, math.MaxInt), of(10, 5, math.MinInt, math.MinInt),
		of(4, 5, 0, 2), of(0, 5, 0, 2), of(-1, 5, 0, 2), of(0, 1, 0, 0), of(lastSpan-1, lastSpan, 0, 0), of(math.MinInt64, 5, 0, 2), of(-lastTick, 5, 2, 2),
		of(lastTick+1, 5, 2, 2), of(lastTick+1, 5, 0, 0), of(lastTick+1, lastSpan, 100, 100), of(math.MaxInt64, 5, 2, 2), of(math.MaxInt64, 5, 0, 2),
		of(lastTick, 1, 0, 1), of(lastTick-9, 5, 0, 2), of(lastTick-4, 5, 1, 2), of(lastTick-100*lastSpan+1, lastSpan, 0, 100), of(lastTick-99, 1, 0, 100),
	}
}

// The chapter's words, one sentence after the other. Sums are worked out in numbers that have no end.

func inRange(n, least, most int64) bool { return n >= least && n <= most }

// atMost reports whether first plus times times by is at most most.
func atMost(first, times, by, most int64) bool {
	return sum(first, times, by).Cmp(big.NewInt(most)) <= 0
}

func sum(first, times, by int64) *big.Int {
	n := new(big.Int).Mul(big.NewInt(times), big.NewInt(by))
	return n.Add(n, big.NewInt(first))
}

func valid(t terms.Terms) bool {
	if !inRange(t.Span, 1, lastSpan) {
		return false
	}
	if t.Cap < 0 || t.Cap > lastCap {
		return false
	}
	if t.Used < 0 || t.Used > t.Cap {
		return false
	}
	if !inRange(t.Deadline, t.Span, lastTick) {
		return false
	}
	return atMost(t.Deadline, int64(t.Cap)-int64(t.Used), t.Span, lastTick)
}

func plainOver(t terms.Terms, now int64) bool {
	if !valid(t) {
		return false
	}
	return now >= t.Deadline
}

func plainLast(t terms.Terms) int64 {
	if !valid(t) {
		return 0
	}
	return sum(t.Deadline, int64(t.Cap)-int64(t.Used), t.Span).Int64()
}

func plainAgree(asks []int64, least, most int64) (int64, api.Errno) {
	if least < 1 {
		return 0, api.ErrArg
	}
	if least > most {
		return 0, api.ErrArg
	}
	if most > lastSpan {
		return 0, api.ErrArg
	}
	if len(asks) == 0 {
		return 0, api.ErrNone
	}
	greatest := asks[0]
	for _, n := range asks {
		if n > greatest {
			greatest = n
		}
	}
	if greatest < least {
		return least, api.OK
	}
	if greatest > most {
		return most, api.OK
	}
	return greatest, api.OK
}

func plainNew(now, span int64, most int) (terms.Terms, api.Errno) {
	if !inRange(now, 0, lastTick) {
		return terms.Terms{}, api.ErrArg
	}
	if !inRange(span, 1, lastSpan) {
		return terms.Terms{}, api.ErrArg
	}
	if most < 0 || most > lastCap {
		return terms.Terms{}, api.ErrArg
	}
	if !atMost(now, int64(most)+1, span, lastTick) {
		return terms.Terms{}, api.ErrBig
	}
	return of(now+span, span, 0, most), api.OK
}

func plainExtend(t terms.Terms, now int64) (terms.Terms, api.Errno) {
	if !valid(t) {
		return t, api.ErrArg
	}
	if plainOver(t, now) {
		return t, api.ErrLate
	}
	if t.Used == t.Cap {
		return t, api.ErrCap
	}
	return of(t.Deadline+t.Span, t.Span, t.Used+1, t.Cap), api.OK
}
