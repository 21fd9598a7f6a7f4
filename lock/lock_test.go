package lock_test

import (
	"cmp"
	"fmt"
	"math"
	"slices"
	"testing"

	"waystation/api"
	"waystation/lock"
)

type locks = lock.Locks

// read is a shared hold, write an exclusive one.
func read(key uint8, tx int) lock.Hold  { return lock.Hold{Key: key, Tx: tx} }
func write(key uint8, tx int) lock.Hold { return lock.Hold{Key: key, Tx: tx, Write: true} }

// shown tells locks in a line, and not all of them if they are many.
func shown(l locks) string {
	if len(l) > 20 {
		return fmt.Sprintf("%v and more, %d holds in all", l[:20], len(l))
	}
	return fmt.Sprint(l)
}

func locksAre(t *testing.T, what string, got, want locks) {
	t.Helper()
	if !slices.Equal(got, want) {
		t.Errorf("%s: %s, want %s", what, shown(got), shown(want))
	}
}

// lent are locks as an argument, in memory that has room behind them, and what that memory was.
type lent struct {
	locks
	memory, was locks
}

func lend(l locks) lent {
	spare := write(77, -77)
	memory := slices.Concat(l, locks{spare, spare})
	return lent{memory[:len(l)], memory, slices.Clone(memory)}
}

func overwrite(l locks) {
	for i := range l {
		l[i] = write(99, -99)
	}
}

// apart checks that a call left its argument as it was, and that the locks it returned share no memory with it.
func (l lent) apart(t *testing.T, call string, result locks) {
	t.Helper()
	if !slices.Equal(l.memory, l.was) {
		t.Errorf("%s changed the locks that it was given", call)
	}
	all := result[:cap(result)]
	kept := slices.Clone(all)
	overwrite(all)
	if !slices.Equal(l.memory, l.was) {
		t.Errorf("%s: writing to its result changes its argument", call)
	}
	copy(all, kept)
	overwrite(l.memory)
	if !slices.Equal(all, kept) {
		t.Errorf("%s: writing to its argument changes its result", call)
	}
}

// take calls Take, and looks at what each call of it must keep to.
func take(t *testing.T, l locks, tx int, key uint8, write bool) (locks, api.Errno) {
	t.Helper()
	given := lend(l)
	result, e := lock.Take(given.locks, tx, key, write)
	given.apart(t, "Take", result)
	if e != api.OK {
		locksAre(t, "Take with an error", result, l)
	} else if !lock.Right(result) {
		t.Errorf("Take returned locks that are not valid: %s", shown(result))
	}
	return result, e
}

func free(t *testing.T, l locks, tx int) locks {
	t.Helper()
	given := lend(l)
	result := lock.Free(given.locks, tx)
	given.apart(t, "Free", result)
	return result
}

func takeIs(t *testing.T, l locks, tx int, key uint8, write bool, want ...lock.Hold) {
	t.Helper()
	result, e := take(t, l, tx, key, write)
	if e != api.OK {
		t.Errorf("%s: Take of %d by %d, write %t: %d, want OK", shown(l), key, tx, write, e)
	}
	locksAre(t, fmt.Sprintf("%s: Take of %d by %d, write %t", shown(l), key, tx, write), result, want)
}

func takeFails(t *testing.T, l locks, tx int, key uint8, write bool, want api.Errno) {
	t.Helper()
	if _, e := take(t, l, tx, key, write); e != want {
		t.Errorf("%s: Take of %d by %d, write %t: %d, want %d", shown(l), key, tx, write, e, want)
	}
}

func freeIs(t *testing.T, l locks, tx int, want ...lock.Hold) {
	t.Helper()
	locksAre(t, fmt.Sprintf("%s: Free of %d", shown(l), tx), free(t, l, tx), want)
}

func holdsAre(t *testing.T, l locks, tx int, key uint8, want int) {
	t.Helper()
	given := lend(l)
	if got := lock.Holds(given.locks, tx, key); got != want {
		t.Errorf("%s: Holds of %d by %d: %d, want %d", shown(l), key, tx, got, want)
	}
	given.apart(t, "Holds", nil)
}

func rightIs(t *testing.T, what string, l locks, want bool) {
	t.Helper()
	given := lend(l)
	if lock.Right(given.locks) != want {
		t.Errorf("Right of %s: %t", what, !want)
	}
	given.apart(t, "Right", nil)
}

// all are the shared locks of all keys by all transactions, as many as there can be.
func all() locks {
	l := make(locks, 0, 64000)
	for key := range 64 {
		for tx := range 1000 {
			l = append(l, read(uint8(key), tx))
		}
	}
	return l
}

// wrong are locks that are not valid, each for one reason alone where that can be.
func wrong() map[string]locks {
	swapped := all()
	swapped[63998], swapped[63999] = swapped[63999], swapped[63998]
	oneWrites := all()
	oneWrites[500].Write = true
	lastWrites := all()
	lastWrites[63999].Write = true
	return map[string]locks{
		"Key 64":                             {read(64, 1)},
		"Key 64, exclusive":                  {write(64, 1)},
		"Key 255":                            {read(255, 1)},
		"Key 64 behind others":               {read(5, 1), read(63, 1), read(64, 1)},
		"Tx -1":                              {read(5, -1)},
		"Tx -1, exclusive":                   {write(5, -1)},
		"Tx 1000":                            {read(5, 1000)},
		"Tx 1000, exclusive":                 {write(5, 1000)},
		"the least Tx":                       {read(5, math.MinInt)},
		"the greatest Tx":                    {read(5, math.MaxInt)},
		"Tx -1 ahead of others":              {read(5, -1), read(5, 1)},
		"Tx 1000 behind others":              {read(5, 1), read(5, 999), read(5, 1000)},
		"Tx 1000 between others":             {read(5, 1), read(5, 1000), read(6, 1)},
		"Keys out of order":                  {read(6, 1), read(5, 1)},
		"Keys out of order, Txs in order":    {read(6, 1), read(5, 2)},
		"Keys out of order, exclusive":       {write(6, 1), write(5, 1)},
		"Keys out of order, last":            {read(1, 1), read(2, 1), read(4, 1), read(3, 1)},
		"one Key, Txs out of order":          {read(5, 2), read(5, 1)},
		"one Key, Txs out of order, last":    {read(4, 1), read(5, 1), read(5, 3), read(5, 2)},
		"one Key, Txs out of order, of all":  swapped,
		"one hold twice":                     {read(5, 1), read(5, 1)},
		"one hold of zeros twice":            {read(0, 0), read(0, 0)},
		"one exclusive hold twice":           {write(5, 1), write(5, 1)},
		"one hold twice, others between":     {read(5, 1), read(5, 2), read(5, 1)},
		"shared and exclusive of one Tx":     {read(5, 1), write(5, 1)},
		"exclusive and shared of one Tx":     {write(5, 1), read(5, 1)},
		"exclusive ahead of a shared one":    {write(5, 1), read(5, 2)},
		"exclusive behind a shared one":      {read(5, 1), write(5, 2)},
		"exclusive between shared ones":      {read(5, 1), write(5, 2), read(5, 3)},
		"exclusive ahead of two shared ones": {write(5, 1), read(5, 2), read(5, 3)},
		"exclusive behind two shared ones":   {read(5, 1), read(5, 2), write(5, 3)},
		"two exclusive ones":                 {write(5, 1), write(5, 2)},
		"two exclusive ones, last Key":       {write(4, 1), read(5, 1), write(63, 0), write(63, 999)},
		"exclusive beside shared, Key 0":     {write(0, 0), read(0, 1), read(1, 0)},
		"exclusive among all of a Key":       oneWrites,
		"exclusive, the last of all":         lastWrites,
	}
}

// P7.1

func TestRight(t *testing.T) {
	for name, l := range map[string]locks{
		"nil":                              nil,
		"an empty slice":                   {},
		"one shared":                       {read(5, 1)},
		"one exclusive":                    {write(5, 1)},
		"the zero hold":                    {read(0, 0)},
		"the least Key and Tx, exclusive":  {write(0, 0)},
		"the greatest Key and Tx":          {read(63, 999)},
		"the greatest ones, exclusive":     {write(63, 999)},
		"two shared of one Key":            {read(5, 1), read(5, 2)},
		"the least and greatest Tx":        {read(5, 0), read(5, 999)},
		"the least and greatest Key":       {write(0, 999), write(63, 0)},
		"exclusive of two Keys, one Tx":    {write(5, 1), write(6, 1)},
		"exclusive of two Keys, two Txs":   {write(5, 2), write(6, 1)},
		"greater Tx of a lesser Key first": {read(5, 2), read(6, 1)},
		"exclusive behind another Key":     {read(4, 1), read(4, 2), write(5, 1)},
		"exclusive ahead of another Key":   {write(4, 1), read(5, 1), read(5, 2)},
		"exclusive between other Keys":     {read(4, 1), read(4, 3), write(5, 2), read(6, 1), read(6, 3)},
		"all that there can be":            all(),
	} {
		rightIs(t, name, l, true)
	}
	for name, l := range wrong() {
		rightIs(t, name, l, false)
	}
}

func TestHolds(t *testing.T) {
	l := locks{write(0, 0), read(5, 1), read(5, 2), write(6, 1), read(63, 0), read(63, 999)}
	for _, c := range []struct {
		tx   int
		key  uint8
		want int
	}{
		{0, 0, 2}, {1, 5, 1}, {2, 5, 1}, {1, 6, 2}, {0, 63, 1}, {999, 63, 1},
		{1, 0, 0}, {0, 5, 0}, {3, 5, 0}, {2, 6, 0}, {1, 4, 0}, {1, 63, 0}, {998, 63, 0},
		{5, 1, 0}, {0, 64, 0}, {1, 255, 0}, {-1, 5, 0}, {1000, 5, 0}, {math.MinInt, 63, 0}, {math.MaxInt, 63, 0},
	} {
		holdsAre(t, l, c.tx, c.key, c.want)
		holdsAre(t, nil, c.tx, c.key, 0)
		holdsAre(t, locks{}, c.tx, c.key, 0)
	}
}

// TestHoldsOfAnyLocks: the first hold counts, wherever it stands, and no number is out of range.
func TestHoldsOfAnyLocks(t *testing.T) {
	for _, c := range []struct {
		l    locks
		tx   int
		key  uint8
		want int
	}{
		{locks{read(5, 1), write(5, 1)}, 1, 5, 1},
		{locks{write(5, 1), read(5, 1)}, 1, 5, 2},
		{locks{read(9, 1), write(5, 2), write(5, 1), read(5, 1), read(5, 1)}, 1, 5, 2},
		{locks{write(9, 1), write(5, 2), read(5, 1), write(5, 1), write(5, 1)}, 1, 5, 1},
		{locks{write(9, 1), read(5, 2)}, 1, 5, 0},
		{locks{write(6, 2), read(5, 1)}, 1, 5, 1},
		{locks{read(5, 2), write(5, 1)}, 1, 5, 2},
		{locks{write(5, 2), read(5, 1)}, 1, 5, 1},
		{locks{write(5, 1), write(5, 2)}, 2, 5, 2},
		{locks{read(64, 1)}, 1, 64, 1},
		{locks{write(64, 1)}, 1, 64, 2},
		{locks{write(255, 1), read(255, 1)}, 1, 255, 2},
		{locks{write(64, 1)}, 1, 0, 0},
		{locks{write(5, -1)}, -1, 5, 2},
		{locks{read(5, 1000)}, 1000, 5, 1},
		{locks{read(5, math.MinInt), write(5, math.MaxInt)}, math.MinInt, 5, 1},
		{locks{read(5, math.MinInt), write(5, math.MaxInt)}, math.MaxInt, 5, 2},
	} {
		holdsAre(t, c.l, c.tx, c.key, c.want)
	}
}

// P7.2

func TestTakeOfWhatNobodyHolds(t *testing.T) {
	for _, key := range []uint8{0, 1, 62, 63} {
		for _, tx := range []int{0, 1, 998, 999} {
			for _, l := range []locks{nil, {}} {
				takeIs(t, l, tx, key, false, read(key, tx))
				takeIs(t, l, tx, key, true, write(key, tx))
			}
		}
	}
}

func TestTakeOfWhatTheSameHolds(t *testing.T) {
	takeIs(t, locks{read(5, 1)}, 1, 5, false, read(5, 1))
	takeIs(t, locks{read(5, 1)}, 1, 5, true, write(5, 1))
	takeIs(t, locks{write(5, 1)}, 1, 5, false, write(5, 1))
	takeIs(t, locks{write(5, 1)}, 1, 5, true, write(5, 1))

	beside := locks{write(4, 2), read(5, 1), read(6, 0), read(6, 1)}
	takeIs(t, beside, 1, 5, false, beside...)
	takeIs(t, beside, 1, 5, true, write(4, 2), write(5, 1), read(6, 0), read(6, 1))
	beside[1].Write = true
	takeIs(t, beside, 1, 5, false, beside...)
	takeIs(t, beside, 1, 5, true, beside...)
}

func TestTakeOfWhatOthersHold(t *testing.T) {
	for _, tx := range []int{0, 2, 4, 999} {
		for _, others := range []locks{{write(5, 1)}, {write(5, 3)}, {read(4, 2), write(5, 3), write(6, 2)}} {
			takeFails(t, others, tx, 5, false, api.ErrLock)
			takeFails(t, others, tx, 5, true, api.ErrLock)
		}
		for _, others := range []locks{{read(5, 1)}, {read(5, 3)}, {read(5, 1), read(5, 3)}, {write(4, tx), read(5, 3), write(6, tx)}} {
			takeFails(t, others, tx, 5, true, api.ErrLock)
		}
	}
	takeIs(t, locks{read(5, 1)}, 2, 5, false, read(5, 1), read(5, 2))
	takeIs(t, locks{read(5, 1)}, 0, 5, false, read(5, 0), read(5, 1))
	takeIs(t, locks{read(5, 1), read(5, 3)}, 2, 5, false, read(5, 1), read(5, 2), read(5, 3))
	takeFails(t, locks{read(0, 0)}, 999, 0, true, api.ErrLock)
	takeFails(t, locks{write(63, 999)}, 0, 63, false, api.ErrLock)
}

// TestTakeOfWhatOneOfSeveralHolds: wherever it stands among them.
func TestTakeOfWhatOneOfSeveralHolds(t *testing.T) {
	several := locks{read(5, 1), read(5, 2), read(5, 3)}
	for tx := 1; tx <= 3; tx++ {
		takeIs(t, several, tx, 5, false, several...)
		takeFails(t, several, tx, 5, true, api.ErrLock)
	}
	takeFails(t, locks{read(5, 1), read(5, 2)}, 1, 5, true, api.ErrLock)
	takeFails(t, locks{read(5, 1), read(5, 2)}, 2, 5, true, api.ErrLock)
}

// TestTakeLooksAtItsKeyAlone: other keys are no hindrance, whoever holds them.
func TestTakeLooksAtItsKeyAlone(t *testing.T) {
	l := locks{write(4, 2), write(6, 1), read(7, 1), read(7, 2)}
	takeIs(t, l, 1, 5, true, write(4, 2), write(5, 1), write(6, 1), read(7, 1), read(7, 2))
	takeIs(t, l, 3, 5, false, write(4, 2), read(5, 3), write(6, 1), read(7, 1), read(7, 2))
}

func TestTakeInOrder(t *testing.T) {
	a, b, c := read(10, 5), read(20, 3), read(20, 7)
	l := locks{a, b, c}
	for _, s := range []struct {
		tx   int
		key  uint8
		want locks
	}{
		{9, 0, locks{read(0, 9), a, b, c}},
		{4, 10, locks{read(10, 4), a, b, c}},
		{6, 10, locks{a, read(10, 6), b, c}},
		{999, 10, locks{a, read(10, 999), b, c}},
		{0, 15, locks{a, read(15, 0), b, c}},
		{2, 20, locks{a, read(20, 2), b, c}},
		{5, 20, locks{a, b, read(20, 5), c}},
		{8, 20, locks{a, b, c, read(20, 8)}},
		{0, 21, locks{a, b, c, read(21, 0)}},
		{0, 63, locks{a, b, c, read(63, 0)}},
		{5, 10, l}, {3, 20, l}, {7, 20, l},
	} {
		takeIs(t, l, s.tx, s.key, false, s.want...)
	}
	takeIs(t, l, 5, 10, true, write(10, 5), b, c)
	takeIs(t, l, 9, 0, true, write(0, 9), a, b, c)
	takeIs(t, l, 0, 15, true, a, write(15, 0), b, c)
	takeIs(t, l, 0, 63, true, a, b, c, write(63, 0))
}

func TestTakeOfWrongNumbers(t *testing.T) {
	// Some of these keys are held exclusively: ErrArg goes ahead of ErrLock.
	for _, l := range []locks{nil, {write(0, 1), write(5, 1), write(63, 1)}, {read(0, 0), read(5, 0), read(63, 999)}} {
		for _, w := range []bool{false, true} {
			for _, tx := range []int{-1, -2, 1000, 1001, math.MinInt, math.MaxInt} {
				for _, key := range []uint8{0, 5, 63, 64, 255} {
					takeFails(t, l, tx, key, w, api.ErrArg)
				}
			}
			for _, tx := range []int{0, 1, 2, 999} {
				for _, key := range []uint8{64, 65, 69, 127, 128, 255} {
					takeFails(t, l, tx, key, w, api.ErrArg)
				}
			}
		}
	}
}

// TestTakeOfWrongLocks: ErrArg goes ahead of ErrLock, and the locks come back with it as they are.
func TestTakeOfWrongLocks(t *testing.T) {
	for name, l := range wrong() {
		t.Run(name, func(t *testing.T) {
			for _, tx := range []int{0, 1, 2, 9, 999, -1, 1000, math.MinInt, math.MaxInt} {
				for _, key := range []uint8{0, 5, 63, 64, 255} {
					takeFails(t, l, tx, key, false, api.ErrArg)
					takeFails(t, l, tx, key, true, api.ErrArg)
				}
				if len(l) > 1000 {
					break
				}
			}
		})
	}
}

func TestTakeOfAllThereCanBe(t *testing.T) {
	every := all()
	for _, c := range []lock.Hold{read(0, 0), read(31, 500), read(63, 999)} {
		at := slices.Index(every, c)
		fewer := slices.Delete(all(), at, at+1)
		takeIs(t, fewer, c.Tx, c.Key, false, every...)
		takeIs(t, every, c.Tx, c.Key, false, every...)
		takeFails(t, every, c.Tx, c.Key, true, api.ErrLock)
		takeFails(t, fewer, c.Tx, c.Key, true, api.ErrLock)
	}
	var writes locks
	for key := range 64 {
		writes = append(writes, write(uint8(key), 999-key))
	}
	var l locks
	for i := range 64 {
		// 27 and 64 have no common divisor, so each key comes once, and out of order.
		key := i * 27 % 64
		var e api.Errno
		if l, e = take(t, l, 999-key, uint8(key), true); e != api.OK {
			t.Fatalf("Take of %d: %d", key, e)
		}
	}
	locksAre(t, "all keys, exclusively", l, writes)
}

// P7.3

func TestFree(t *testing.T) {
	l := locks{read(0, 0), read(0, 1), write(4, 1), read(5, 1), read(5, 2), write(6, 2), read(63, 1), read(63, 999)}
	freeIs(t, l, 1, read(0, 0), read(5, 2), write(6, 2), read(63, 999))
	freeIs(t, l, 2, read(0, 0), read(0, 1), write(4, 1), read(5, 1), read(63, 1), read(63, 999))
	freeIs(t, l, 0, l[1:]...)
	freeIs(t, l, 999, l[:7]...)
	for _, tx := range []int{3, 4, 5, 6, 63, 998, -1, 1000, math.MinInt, math.MaxInt} {
		freeIs(t, l, tx, l...)
		freeIs(t, nil, tx)
		freeIs(t, locks{}, tx)
	}
	freeIs(t, locks{read(5, 1)}, 1)
	freeIs(t, locks{write(5, 1)}, 1)
	freeIs(t, locks{write(5, 1)}, 2, write(5, 1))
	freeIs(t, locks{write(0, 7), write(5, 7), read(6, 7), write(63, 7)}, 7)
}

func TestFreeTwice(t *testing.T) {
	l := locks{read(4, 1), read(5, 1), read(5, 2), write(6, 1)}
	once := free(t, l, 1)
	locksAre(t, "Free once", once, locks{read(5, 2)})
	locksAre(t, "Free twice", free(t, once, 1), once)
	locksAre(t, "Free of the other one too", free(t, once, 2), nil)
}

func TestFreeOfAllThereCanBe(t *testing.T) {
	for _, tx := range []int{0, 500, 999} {
		l := free(t, all(), tx)
		if len(l) != 63936 || !lock.Right(l) || slices.ContainsFunc(l, func(h lock.Hold) bool { return h.Tx == tx }) {
			t.Errorf("Free of %d leaves %d holds", tx, len(l))
		}
	}
}

// TestFreeOfAnyLocks: all holds of the transaction go, and the others stay in the order in which they are.
func TestFreeOfAnyLocks(t *testing.T) {
	freeIs(t, locks{read(5, 1), write(5, 1), read(5, 1)}, 1)
	freeIs(t, locks{read(6, 2), read(5, 1), write(5, 2), read(5, 2), write(5, 1)}, 1, read(6, 2), write(5, 2), read(5, 2))
	freeIs(t, locks{read(6, 2), read(5, 1), write(5, 2), read(5, 2), write(5, 1)}, 2, read(5, 1), write(5, 1))
	freeIs(t, locks{read(6, 2), read(5, 1)}, 3, read(6, 2), read(5, 1))
	freeIs(t, locks{write(255, 1), read(64, 2)}, 1, read(64, 2))
	freeIs(t, locks{write(5, -1), read(5, 1), read(6, -1)}, -1, read(5, 1))
	freeIs(t, locks{write(5, 1000), read(5, 1)}, 1000, read(5, 1))
	freeIs(t, locks{read(5, math.MinInt), read(5, math.MaxInt)}, math.MinInt, read(5, math.MaxInt))
	freeIs(t, locks{read(5, math.MinInt), read(5, math.MaxInt)}, math.MaxInt, read(5, math.MinInt))
	for _, l := range wrong() {
		for _, tx := range []int{0, 1, 2, 999, -1, 1000} {
			freeIs(t, l, tx, slices.DeleteFunc(slices.Clone(l), func(h lock.Hold) bool { return h.Tx == tx })...)
		}
	}
}

// The words of the chapter, told again in a way that does not lean on the order of the holds.

func inRange(h lock.Hold) bool { return h.Key <= 63 && h.Tx >= 0 && h.Tx <= 999 }

func inOrder(a, b lock.Hold) int {
	return cmp.Or(cmp.Compare(a.Key, b.Key), cmp.Compare(a.Tx, b.Tx))
}

func valid(l locks) bool {
	for i, a := range l {
		if !inRange(a) {
			return false
		}
		for _, b := range l[i+1:] {
			if inOrder(a, b) >= 0 || a.Key == b.Key && (a.Write || b.Write) {
				return false
			}
		}
	}
	return true
}

func heldOf(l locks, tx int, key uint8) int {
	for _, h := range l {
		if h.Tx == tx && h.Key == key && h.Write {
			return 2
		} else if h.Tx == tx && h.Key == key {
			return 1
		}
	}
	return 0
}

func taken(l locks, tx int, key uint8, write bool) (locks, api.Errno) {
	if !valid(l) || !inRange(read(key, tx)) {
		return l, api.ErrArg
	}
	var next locks
	for _, h := range l {
		switch {
		case h.Key == key && h.Tx == tx:
			write = write || h.Write
		case h.Key == key && (h.Write || write):
			return l, api.ErrLock
		default:
			next = append(next, h)
		}
	}
	next = append(next, lock.Hold{Key: key, Tx: tx, Write: write})
	slices.SortFunc(next, inOrder)
	return next, api.OK
}

func freed(l locks, tx int) locks {
	var next locks
	for _, h := range l {
		if h.Tx != tx {
			next = append(next, h)
		}
	}
	return next
}

// listsOf calls see with each list of at most n of the holds, in each order and with repetitions.
func listsOf(n int, holds, ahead locks, see func(locks)) {
	see(ahead)
	if n == 0 {
		return
	}
	for _, h := range holds {
		listsOf(n-1, holds, append(slices.Clone(ahead), h), see)
	}
}

func holdsOf(keys []uint8, txs []int) locks {
	var l locks
	for _, key := range keys {
		for _, tx := range txs {
			l = append(l, read(key, tx), write(key, tx))
		}
	}
	return l
}

// TestAllSmallLocks holds each call on all small lists of holds, valid or not, against the words of the chapter.
func TestAllSmallLocks(t *testing.T) {
	for _, c := range []struct {
		n    int
		keys []uint8
		txs  []int
	}{
		{2, []uint8{0, 1, 63, 64, 255}, []int{math.MinInt, -1, 0, 999, 1000, math.MaxInt}},
		{3, []uint8{0, 63, 64}, []int{-1, 0, 999, 1000}},
		{4, []uint8{5, 6}, []int{1, 2}},
		{4, []uint8{5}, []int{1, 2, 3, 4}},
	} {
		holds := holdsOf(c.keys, c.txs)
		listsOf(c.n, holds, nil, func(l locks) {
			if lock.Right(l) != valid(l) {
				t.Fatalf("Right of %v: %t", l, !valid(l))
			}
			for _, tx := range c.txs {
				if got := lock.Free(l, tx); !slices.Equal(got, freed(l, tx)) {
					t.Fatalf("%v: Free of %d: %v", l, tx, got)
				}
			}
			for _, h := range holds {
				if got := lock.Holds(l, h.Tx, h.Key); got != heldOf(l, h.Tx, h.Key) {
					t.Fatalf("%v: Holds of %d by %d: %d", l, h.Key, h.Tx, got)
				}
				want, wantE := taken(l, h.Tx, h.Key, h.Write)
				if got, e := lock.Take(l, h.Tx, h.Key, h.Write); e != wantE || !slices.Equal(got, want) {
					t.Fatalf("%v: Take as %v: %v, %d, want %v, %d", l, h, got, e, want, wantE)
				}
			}
		})
	}
}

// P7.4 and P7.5

// run does mixed calls, and calls see with the locks ahead of each call, what it asks for, whether it is a Free, and what it returns.
func run(t *testing.T, seed uint32, steps int, see func(before locks, asked lock.Hold, isFree bool, after locks, e api.Errno)) {
	t.Helper()
	var l locks
	for step := range steps {
		seed = seed*1664525 + 1013904223
		asked := lock.Hold{Key: uint8(seed >> 8 % 4 * 21), Tx: int(seed >> 12 % 5), Write: seed>>17%3 == 0}
		next, e, isFree := locks(nil), api.OK, seed>>20%9 == 0
		if isFree {
			next = free(t, l, asked.Tx)
		} else {
			next, e = take(t, l, asked.Tx, asked.Key, asked.Write)
		}
		see(slices.Clone(l), asked, isFree, slices.Clone(next), e)
		if t.Failed() {
			t.Fatalf("step %d", step)
		}
		l = next
	}
}

func TestAlone(t *testing.T) {
	var writers, readers int
	run(t, 1, 5000, func(_ locks, _ lock.Hold, _ bool, l locks, _ api.Errno) {
		for key := range uint8(64) {
			var holders, exclusive int
			for tx := range 5 {
				switch lock.Holds(l, tx, key) {
				case 2:
					exclusive++
					holders++
				case 1:
					holders++
				}
			}
			if exclusive > 0 && holders > 1 {
				t.Errorf("%d has %d holders, %d of them exclusively: %v", key, holders, exclusive, l)
			}
			writers += exclusive
			readers += max(0, holders-1)
		}
	})
	if writers == 0 || readers == 0 {
		t.Errorf("the run has %d exclusive holds, and %d shared ones beside others", writers, readers)
	}
}

func TestOthersStay(t *testing.T) {
	run(t, 2, 5000, func(before locks, asked lock.Hold, isFree bool, after locks, e api.Errno) {
		locksAre(t, "the holds of the others", freed(after, asked.Tx), freed(before, asked.Tx))
		if isFree {
			return
		}
		isAsked := func(h lock.Hold) bool { return h.Tx == asked.Tx && h.Key == asked.Key }
		locksAre(t, "the holds of the other keys", slices.DeleteFunc(after, isAsked), slices.DeleteFunc(before, isAsked))
	})
}

// TestAsIfNot: who takes keys and is freed then leaves the locks of the others as if it had not been there.
func TestAsIfNot(t *testing.T) {
	var tried int
	run(t, 3, 3000, func(l locks, asked lock.Hold, _ bool, _ locks, _ api.Errno) {
		others := free(t, l, asked.Tx)
		x := others
		for _, key := range []uint8{asked.Key, 0, 21, 42, 63, asked.Key} {
			var e api.Errno
			if x, e = take(t, x, asked.Tx, key, asked.Write); e == api.OK {
				tried++
			}
		}
		locksAre(t, "as if not", free(t, x, asked.Tx), others)
	})
	if tried == 0 {
		t.Error("nothing was taken")
	}
}

// TestRefusedIsTakenWhenOthersAreFree: and it is refused until the last one that is in the way is free.
func TestRefusedIsTakenWhenOthersAreFree(t *testing.T) {
	var refused int
	run(t, 4, 5000, func(l locks, asked lock.Hold, isFree bool, _ locks, e api.Errno) {
		if isFree || e == api.OK {
			return
		}
		if e != api.ErrLock {
			t.Errorf("Take as %v: %d", asked, e)
		}
		refused++
		for tx := range 5 {
			if tx != asked.Tx {
				l = free(t, l, tx)
			}
		}
		x, e := take(t, l, asked.Tx, asked.Key, asked.Write)
		want := max(1, heldOf(l, asked.Tx, asked.Key))
		if asked.Write {
			want = 2
		}
		if e != api.OK {
			t.Errorf("%v: Take as %v when the others are free: %d", l, asked, e)
		}
		holdsAre(t, x, asked.Tx, asked.Key, want)
	})
	if refused == 0 {
		t.Error("nothing was refused")
	}

	l := locks{read(5, 1), read(5, 2), read(5, 3), write(6, 4)}
	for tx := 2; tx <= 3; tx++ {
		takeFails(t, l, 1, 5, true, api.ErrLock)
		l = free(t, l, tx)
	}
	takeIs(t, l, 1, 5, true, write(5, 1), write(6, 4))
	takeFails(t, l, 1, 6, false, api.ErrLock)
	takeIs(t, free(t, l, 4), 1, 6, false, read(5, 1), read(6, 1))
}

// TestAgainstWords does long mixed runs, and holds each answer against the words of the chapter.
func TestAgainstWords(t *testing.T) {
	for seed := range uint32(4) {
		run(t, seed+10, 2000, func(before locks, asked lock.Hold, isFree bool, after locks, e api.Errno) {
			want, wantE := freed(before, asked.Tx), api.OK
			if !isFree {
				want, wantE = taken(before, asked.Tx, asked.Key, asked.Write)
			}
			if e != wantE {
				t.Errorf("%v: %v, free %t: %d, want %d", before, asked, isFree, e, wantE)
			}
			locksAre(t, "the locks", after, want)
			rightIs(t, "the locks", after, true)
		})
	}
}

// TestSameAgain: an answer hangs on nothing but the arguments.
func TestSameAgain(t *testing.T) {
	l := locks{read(5, 1), read(5, 2), write(6, 1)}
	for range 3 {
		takeIs(t, l, 3, 5, false, read(5, 1), read(5, 2), read(5, 3), write(6, 1))
		takeFails(t, l, 1, 5, true, api.ErrLock)
		freeIs(t, l, 1, read(5, 2))
		holdsAre(t, l, 1, 6, 2)
		rightIs(t, "the same locks", l, true)
	}
}

func TestExample(t *testing.T) {
	l, e := take(t, nil, 1, 5, false)
	if e != api.OK {
		t.Errorf("1 takes 5: %d", e)
	}
	l, e = take(t, l, 2, 5, false)
	if e != api.OK {
		t.Errorf("2 takes 5: %d", e)
	}
	l, e = take(t, l, 1, 5, true)
	if e != api.ErrLock {
		t.Errorf("1 takes 5 exclusively: %d", e)
	}
	holdsAre(t, l, 1, 5, 1)
	holdsAre(t, l, 2, 5, 1)
	l = free(t, l, 2)
	takeIs(t, l, 1, 5, true, write(5, 1))
}
