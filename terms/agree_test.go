package terms_test

import (
	"math"
	"slices"
	"testing"

	"waystation/api"
	"waystation/terms"
)

// P13.2, and what P13.5 says of it.

// agreeIs lends asks with greater ones behind them in memory, none of which may count, and none of which may be written to.
func agreeIs(t *testing.T, asks []int64, least, most, want int64, e api.Errno) {
	t.Helper()
	memory := append(slices.Clone(asks), math.MaxInt64, most, least)
	was := slices.Clone(memory)
	for _, lent := range [][]int64{memory[:len(asks)], memory[:len(asks):len(asks)]} {
		if n, is := terms.Agree(lent, least, most); n != want || is != e {
			t.Fatalf("Agree(%v, %d, %d) = %d, %d, want %d, %d", some(asks), least, most, n, is, want, e)
		}
	}
	if !slices.Equal(memory, was) {
		t.Fatalf("Agree(%v, %d, %d) changed what it was given", some(asks), least, most)
	}
}

func agreeFails(t *testing.T, asks []int64, least, most int64, e api.Errno) {
	t.Helper()
	agreeIs(t, asks, least, most, 0, e)
}

func some(asks []int64) []int64 { return asks[:min(len(asks), 10)] }

func TestAgree(t *testing.T) {
	agreeIs(t, []int64{3, 7, 5}, 1, 10, 7, api.OK)
	agreeIs(t, []int64{7, 3, 5}, 1, 10, 7, api.OK)
	agreeIs(t, []int64{3, 5, 7}, 1, 10, 7, api.OK)
	agreeIs(t, []int64{7, 7}, 1, 10, 7, api.OK)
	agreeIs(t, []int64{7}, 7, 7, 7, api.OK)
	agreeIs(t, []int64{6}, 7, 7, 7, api.OK)
	agreeIs(t, []int64{8}, 7, 7, 7, api.OK)
	// An ask out of the range does not hide another one in it.
	agreeIs(t, []int64{-3, 5}, 4, 10, 5, api.OK)
	agreeIs(t, []int64{5, -3}, 4, 10, 5, api.OK)
	agreeIs(t, []int64{5, 11}, 4, 10, 10, api.OK)
	agreeIs(t, []int64{11, 5}, 4, 10, 10, api.OK)
}

func TestAgreeAtTheLimits(t *testing.T) {
	for _, x := range [][2]int64{{1, 1}, {1, 2}, {4, 10}, {1, lastSpan}, {lastSpan - 1, lastSpan}, {lastSpan, lastSpan}} {
		least, most := x[0], x[1]
		for _, n := range []int64{math.MinInt64, -most, -least, -1, 0, least - 1, least} {
			agreeIs(t, []int64{n}, least, most, least, api.OK)
			agreeIs(t, []int64{n, n}, least, most, least, api.OK)
		}
		for _, n := range []int64{most, most + 1, lastSpan + 1, lastTick, 1 << 32, math.MaxInt64} {
			agreeIs(t, []int64{n}, least, most, most, api.OK)
			agreeIs(t, []int64{n, n}, least, most, most, api.OK)
			agreeIs(t, []int64{math.MinInt64, n}, least, most, most, api.OK)
		}
	}
	agreeIs(t, []int64{5}, 4, 10, 5, api.OK)
	agreeIs(t, []int64{9}, 4, 10, 9, api.OK)
	agreeIs(t, []int64{lastSpan - 1}, 1, lastSpan, lastSpan-1, api.OK)
}

func TestAgreeOfNone(t *testing.T) {
	for _, x := range [][2]int64{{1, 1}, {1, 10}, {10, 10}, {1, lastSpan}, {lastSpan, lastSpan}} {
		agreeFails(t, nil, x[0], x[1], api.ErrNone)
		agreeFails(t, []int64{}, x[0], x[1], api.ErrNone)
	}
}

func TestAgreeOutOfRange(t *testing.T) {
	for _, asks := range [][]int64{nil, {}, {5}, {1, 2, 3}, {0}, {-1}, {math.MaxInt64, math.MinInt64}} {
		for _, least := range []int64{math.MinInt64, -lastSpan, -1, 0} {
			for _, most := range []int64{math.MinInt64, -1, 0, 1, 10, lastSpan, lastSpan + 1, math.MaxInt64} {
				agreeFails(t, asks, least, most, api.ErrArg)
			}
		}
		for _, least := range []int64{2, 5, lastSpan, lastSpan + 1, 1 << 32, math.MaxInt64} {
			for _, most := range []int64{math.MinInt64, -1, 0, 1, least - 1} {
				agreeFails(t, asks, least, most, api.ErrArg)
			}
		}
		for _, most := range []int64{lastSpan + 1, lastSpan + 2, 1 << 32, 1<<32 + 10, lastTick, math.MaxInt64} {
			for _, least := range []int64{1, 5, lastSpan, lastSpan + 1, most} {
				agreeFails(t, asks, least, most, api.ErrArg)
			}
		}
	}
}

// limits are those of all calls of the tests below, in range or not.
func limits() []int64 {
	return []int64{math.MinInt64, -1, 0, 1, 2, 4, 5, 10, lastSpan - 1, lastSpan, lastSpan + 1, 1 << 32, math.MaxInt64}
}

// asksOf are all lists of up to so many of some numbers.
func asksOf(numbers []int64, size int) [][]int64 {
	lists := [][]int64{nil}
	from := 0
	for range size {
		for _, l := range lists[from:] {
			from++
			for _, n := range numbers {
				lists = append(lists, append(slices.Clone(l), n))
			}
		}
	}
	return lists
}

func TestAgreeOfAll(t *testing.T) {
	for _, least := range limits() {
		for _, most := range limits() {
			numbers := distinct(slices.Concat([]int64{math.MinInt64, -1, 0, math.MaxInt64}, beside(least), beside(most)))
			for _, asks := range asksOf(numbers, 3) {
				want, e := plainAgree(asks, least, most)
				agreeIs(t, asks, least, most, want, e)
			}
		}
	}
}

// TestAgreeIsEnough: P13.5. Nobody who asks for at most most gets less, and no one gets a span that is not in the range.
func TestAgreeIsEnough(t *testing.T) {
	for _, x := range [][2]int64{{1, 1}, {1, 10}, {4, 10}, {10, 10}, {1, lastSpan}, {5, lastSpan}, {lastSpan, lastSpan}} {
		least, most := x[0], x[1]
		numbers := distinct(slices.Concat([]int64{math.MinInt64, -5, 0, 3, 7, math.MaxInt64}, beside(least), beside(most)))
		for _, asks := range asksOf(numbers, 4)[1:] {
			n, e := terms.Agree(asks, least, most)
			if e != api.OK || n < least || n > most {
				t.Fatalf("Agree(%v, %d, %d) = %d, %d", asks, least, most, n, e)
			}
			for _, ask := range asks {
				if ask <= most && n < ask {
					t.Fatalf("Agree(%v, %d, %d) = %d, which is less than %d", asks, least, most, n, ask)
				}
			}
			if n != least && n != most && !slices.Contains(asks, n) {
				t.Fatalf("Agree(%v, %d, %d) = %d, for which nobody asked", asks, least, most, n)
			}
		}
	}
}

// TestAgreeOfMany: the greatest ask counts wherever it stands.
func TestAgreeOfMany(t *testing.T) {
	for _, size := range []int{2, 3, 100, 255, 256, 257, 1000} {
		asks := make([]int64, size)
		for at := range asks {
			for i := range asks {
				asks[i] = int64(i % 7)
			}
			for _, n := range []int64{7, 1000, lastSpan} {
				asks[at] = n
				agreeIs(t, asks, 1, lastSpan, n, api.OK)
			}
		}
	}
	asks := make([]int64, 1<<20)
	agreeIs(t, asks, 3, 10, 3, api.OK)
	asks[len(asks)-1] = 8
	agreeIs(t, asks, 3, 10, 8, api.OK)
}

// TestAsksAreNotKept: R4 and R6. Asks that are written over behind a call do not come back in a later one.
func TestAsksAreNotKept(t *testing.T) {
	asks := []int64{3, 7, 5}
	for _, x := range []struct {
		write []int64
		want  int64
	}{{[]int64{3, 7, 5}, 7}, {[]int64{2, 2, 2}, 2}, {[]int64{20, 20, 20}, 10}, {[]int64{-1, -1, -1}, 1}, {[]int64{3, 7, 5}, 7}} {
		copy(asks, x.write)
		agreeIs(t, []int64{6}, 1, 10, 6, api.OK)
		if n, e := terms.Agree(asks, 1, 10); n != x.want || e != api.OK {
			t.Fatalf("Agree(%v, 1, 10) = %d, %d, want %d", asks, n, e, x.want)
		}
		if !slices.Equal(asks, x.write) {
			t.Fatalf("Agree changed %v to %v", x.write, asks)
		}
		for i := range asks {
			asks[i] = math.MaxInt64
		}
		agreeIs(t, []int64{6}, 1, 10, 6, api.OK)
		agreeFails(t, nil, 1, 10, api.ErrNone)
	}
}
