package ledger_test

import (
	"cmp"
	"fmt"
	"math"
	"slices"
	"testing"

	"waystation/api"
	"waystation/ledger"
)

type (
	deltas = []api.Delta
	book   = ledger.Ledger
)

const (
	least    = math.MinInt64
	greatest = math.MaxInt64
)

// of is the number of a key.
func of(key uint8, by int64) api.Delta { return api.Delta{Key: key, By: by} }

func same(a, b deltas) bool { return slices.Equal(a, b) }

// shown tells deltas in a line, and not all of them if they are many.
func shown(l deltas) string {
	if len(l) > 20 {
		return fmt.Sprintf("%v and more, %d in all", l[:20], len(l))
	}
	return fmt.Sprint(l)
}

func ledgerIs(t *testing.T, what string, got, want book) {
	t.Helper()
	if !same(got, want) {
		t.Errorf("%s: %s, want %s", what, shown(got), shown(want))
	}
}

// lent are deltas as an argument, in memory that has room behind them, and what that memory was.
type lent struct {
	deltas
	memory, was deltas
}

func lend(l deltas) lent {
	spare := of(77, -77)
	memory := slices.Concat(l, deltas{spare, spare})
	return lent{memory[:len(l)], memory, slices.Clone(memory)}
}

func overwrite(l deltas) {
	for i := range l {
		l[i] = of(99, -99)
	}
}

// apart checks that a call left its argument as it was, and that the ledger it returned shares no memory with it.
func (l lent) apart(t *testing.T, call string, result book) {
	t.Helper()
	if !same(l.memory, l.was) {
		t.Errorf("%s changed what it was given: %s", call, shown(l.was))
	}
	all := deltas(result[:cap(result)])
	kept := slices.Clone(all)
	overwrite(all)
	if !same(l.memory, l.was) {
		t.Errorf("%s: writing to its result changes its argument", call)
	}
	copy(all, kept)
	overwrite(l.memory)
	if !same(all, kept) {
		t.Errorf("%s: writing to its argument changes its result", call)
	}
}

// The calls, with what each of them must keep to.

func right(t *testing.T, l book) bool {
	t.Helper()
	given := lend(l)
	is := ledger.Right(given.deltas)
	given.apart(t, "Right", nil)
	return is
}

func get(t *testing.T, l book, key uint8) int64 {
	t.Helper()
	given := lend(l)
	n := ledger.Get(given.deltas, key)
	given.apart(t, "Get", nil)
	return n
}

// ends checks what a call returned: a valid ledger, or with an error the one that goes with it.
func ends(t *testing.T, call string, result book, e api.Errno, withError book) {
	t.Helper()
	if e != api.OK {
		ledgerIs(t, call+" with an error", result, withError)
	} else if !ledger.Right(result) {
		t.Errorf("%s returned a ledger that is not valid: %s", call, shown(result))
	}
}

func add(t *testing.T, l book, key uint8, by int64) (book, api.Errno) {
	t.Helper()
	given := lend(l)
	result, e := ledger.Add(given.deltas, key, by)
	given.apart(t, "Add", result)
	ends(t, "Add", result, e, l)
	return result, e
}

func put(t *testing.T, l book, d deltas) (book, api.Errno) {
	t.Helper()
	given, givenD := lend(l), lend(d)
	result, e := ledger.Put(given.deltas, givenD.deltas)
	given.apart(t, "Put", result)
	givenD.apart(t, "Put", result)
	ends(t, "Put", result, e, l)
	return result, e
}

func sum(t *testing.T, a, b book) (book, api.Errno) {
	t.Helper()
	givenA, givenB := lend(a), lend(b)
	result, e := ledger.Sum(givenA.deltas, givenB.deltas)
	givenA.apart(t, "Sum", result)
	givenB.apart(t, "Sum", result)
	ends(t, "Sum", result, e, nil)
	return result, e
}

func less(t *testing.T, l book) (book, api.Errno) {
	t.Helper()
	given := lend(l)
	result, e := ledger.Less(given.deltas)
	given.apart(t, "Less", result)
	ends(t, "Less", result, e, nil)
	return result, e
}

// is checks what a call returned where it returns OK.
func is(t *testing.T, call string, result book, e api.Errno, want book) {
	t.Helper()
	if e != api.OK {
		t.Errorf("%s: %d, want OK", call, e)
	}
	ledgerIs(t, call, result, want)
}

func addIs(t *testing.T, l book, key uint8, by int64, want ...api.Delta) {
	t.Helper()
	result, e := add(t, l, key, by)
	is(t, fmt.Sprintf("%s: Add of %d to %d", shown(l), by, key), result, e, want)
}

func putIs(t *testing.T, l book, d deltas, want ...api.Delta) {
	t.Helper()
	result, e := put(t, l, d)
	is(t, fmt.Sprintf("%s: Put of %s", shown(l), shown(d)), result, e, want)
}

// sumIs looks at both orders.
func sumIs(t *testing.T, a, b book, want ...api.Delta) {
	t.Helper()
	result, e := sum(t, a, b)
	is(t, fmt.Sprintf("Sum of %s and %s", shown(a), shown(b)), result, e, want)
	result, e = sum(t, b, a)
	is(t, fmt.Sprintf("Sum of %s and %s", shown(b), shown(a)), result, e, want)
}

func lessIs(t *testing.T, l book, want ...api.Delta) {
	t.Helper()
	result, e := less(t, l)
	is(t, "Less of "+shown(l), result, e, want)
}

func getIs(t *testing.T, l book, key uint8, want int64) {
	t.Helper()
	if got := get(t, l, key); got != want {
		t.Errorf("%s: Get of %d: %d, want %d", shown(l), key, got, want)
	}
}

func fails(t *testing.T, call string, e api.Errno) {
	t.Helper()
	if e != api.ErrArg {
		t.Errorf("%s: %d, want ErrArg", call, e)
	}
}

func addFails(t *testing.T, l book, key uint8, by int64) {
	t.Helper()
	_, e := add(t, l, key, by)
	fails(t, fmt.Sprintf("%s: Add of %d to %d", shown(l), by, key), e)
}

func putFails(t *testing.T, l book, d deltas) {
	t.Helper()
	_, e := put(t, l, d)
	fails(t, fmt.Sprintf("%s: Put of %s", shown(l), shown(d)), e)
}

func sumFails(t *testing.T, a, b book) {
	t.Helper()
	_, e := sum(t, a, b)
	fails(t, fmt.Sprintf("Sum of %s and %s", shown(a), shown(b)), e)
}

// full has a number for each key, with the edges of int64 among them.
func full() book {
	var l book
	for key := range 64 {
		l = append(l, of(uint8(key), int64(key*key)-1000))
	}
	l[0].By, l[1].By, l[62].By, l[63].By = least, greatest, -1, 1
	return l
}

// valids are ledgers that are valid.
func valids() map[string]book {
	return map[string]book{
		"nil":                       nil,
		"an empty slice":            {},
		"one":                       {of(5, 2)},
		"Key 0":                     {of(0, 1)},
		"Key 63":                    {of(63, 1)},
		"By -1":                     {of(5, -1)},
		"the least By":              {of(5, least)},
		"the greatest By":           {of(5, greatest)},
		"two":                       {of(5, 2), of(6, 2)},
		"the least and last Key":    {of(0, greatest), of(63, least)},
		"greater By of lesser Keys": {of(1, 9), of(2, 8), of(3, -7)},
		"all keys":                  full(),
	}
}

// wrong are ledgers that are not valid, each for one reason alone where that can be.
func wrong() map[string]book {
	swapped := full()
	swapped[62].Key, swapped[63].Key = 63, 62
	twice := append(full(), of(63, 1))
	above := append(full(), of(64, 1))
	lastZero, firstZero := full(), full()
	lastZero[63].By, firstZero[0].By = 0, 0
	return map[string]book{
		"Key 64":                  {of(64, 1)},
		"Key 255":                 {of(255, 1)},
		"Key 64 behind others":    {of(0, 1), of(63, 1), of(64, 1)},
		"Key 64 and 65":           {of(64, 1), of(65, 1)},
		"Key 64 ahead of another": {of(64, 1), of(5, 1)},
		"Key 64 behind all":       above,
		"By 0":                    {of(5, 0)},
		"Key 0, By 0":             {of(0, 0)},
		"Key 63, By 0":            {of(63, 0)},
		"Key 64, By 0":            {of(64, 0)},
		"By 0 first":              {of(5, 0), of(6, 1), of(7, 1)},
		"By 0 in the middle":      {of(5, 1), of(6, 0), of(7, 1)},
		"By 0 last":               {of(5, 1), of(6, 1), of(7, 0)},
		"By 0 first of all":       firstZero,
		"By 0 last of all":        lastZero,
		"out of order":            {of(6, 1), of(5, 1)},
		"out of order, first":     {of(6, 1), of(5, 1), of(7, 1), of(8, 1)},
		"out of order, last":      {of(1, 1), of(2, 1), of(4, 1), of(3, 1)},
		"out of order, of all":    swapped,
		"Key 0 behind 63":         {of(63, 1), of(0, 1)},
		"twice the same":          {of(5, 1), of(5, 1)},
		"one Key, two numbers":    {of(5, 1), of(5, 2)},
		"one Key, opposite ones":  {of(5, 1), of(5, -1)},
		"Key 0 twice":             {of(0, 1), of(0, 1), of(1, 1)},
		"Key 63 twice":            {of(0, 1), of(63, 1), of(63, 1)},
		"Key 63 twice, of all":    twice,
		"twice, another between":  {of(5, 1), of(6, 1), of(5, 1)},
	}
}

// P8.1

func TestRight(t *testing.T) {
	for name, l := range valids() {
		if !right(t, l) {
			t.Errorf("Right of %s: false", name)
		}
	}
	for name, l := range wrong() {
		if right(t, l) {
			t.Errorf("Right of %s: true", name)
		}
	}
}

func TestGet(t *testing.T) {
	l := book{of(0, 7), of(5, -1), of(6, greatest), of(63, least)}
	for key := range 256 {
		want := map[int]int64{0: 7, 5: -1, 6: greatest, 63: least}[key]
		getIs(t, l, uint8(key), want)
		getIs(t, nil, uint8(key), 0)
		getIs(t, book{}, uint8(key), 0)
	}
	getIs(t, book{of(5, 1)}, 5, 1)
	for _, d := range full() {
		getIs(t, full(), d.Key, d.By)
	}
	getIs(t, full(), 64, 0)
	getIs(t, full(), 255, 0)
}

// TestGetOfAnyLedger: the first element of a key counts, wherever it stands, and no key is out of range.
func TestGetOfAnyLedger(t *testing.T) {
	for _, c := range []struct {
		l    book
		key  uint8
		want int64
	}{
		{book{of(5, 1), of(5, 2)}, 5, 1},
		{book{of(5, 2), of(5, 1)}, 5, 2},
		{book{of(5, 0), of(5, 2)}, 5, 0},
		{book{of(5, 1), of(5, 1), of(5, 3)}, 5, 1},
		{book{of(9, 4), of(5, 3), of(7, 2), of(5, 1)}, 5, 3},
		{book{of(9, 4), of(5, 3), of(7, 2), of(5, 1)}, 7, 2},
		{book{of(9, 4), of(5, 3), of(7, 2), of(5, 1)}, 9, 4},
		{book{of(9, 4), of(5, 3), of(7, 2), of(5, 1)}, 8, 0},
		{book{of(5, 0)}, 5, 0},
		{book{of(64, 1)}, 64, 1},
		{book{of(64, 1)}, 0, 0},
		{book{of(255, least), of(255, 3)}, 255, least},
		{book{of(128, 2), of(64, 1)}, 64, 1},
	} {
		getIs(t, c.l, c.key, c.want)
	}
}

// P8.2

func TestAddToWhatDoesNotOccur(t *testing.T) {
	for _, by := range []int64{1, -1, 2, greatest, least} {
		for _, key := range []uint8{0, 1, 62, 63} {
			addIs(t, nil, key, by, of(key, by))
			addIs(t, book{}, key, by, of(key, by))
		}
		a, b := of(10, 3), of(20, -4)
		l := book{a, b}
		addIs(t, l, 0, by, of(0, by), a, b)
		addIs(t, l, 9, by, of(9, by), a, b)
		addIs(t, l, 11, by, a, of(11, by), b)
		addIs(t, l, 19, by, a, of(19, by), b)
		addIs(t, l, 21, by, a, b, of(21, by))
		addIs(t, l, 63, by, a, b, of(63, by))
	}
}

func TestAddToWhatOccurs(t *testing.T) {
	a, b, c := of(0, 3), of(20, -4), of(63, 5)
	l := book{a, b, c}
	addIs(t, l, 0, 2, of(0, 5), b, c)
	addIs(t, l, 20, 2, a, of(20, -2), c)
	addIs(t, l, 63, -6, a, b, of(63, -1))
	addIs(t, l, 0, -3, b, c)
	addIs(t, l, 20, 4, a, c)
	addIs(t, l, 63, -5, a, b)
	addIs(t, book{of(5, 1)}, 5, -1)
	addIs(t, book{of(5, -1)}, 5, 1)
	addIs(t, book{of(5, greatest)}, 5, -greatest)
}

func TestAddWrapsAround(t *testing.T) {
	for _, key := range []uint8{0, 5, 63} {
		addIs(t, book{of(key, greatest)}, key, 1, of(key, least))
		addIs(t, book{of(key, 1)}, key, greatest, of(key, least))
		addIs(t, book{of(key, greatest)}, key, greatest, of(key, -2))
		addIs(t, book{of(key, least)}, key, -1, of(key, greatest))
		addIs(t, book{of(key, -1)}, key, least, of(key, greatest))
		addIs(t, book{of(key, least)}, key, greatest, of(key, -1))
		addIs(t, book{of(key, greatest)}, key, least, of(key, -1))
		addIs(t, book{of(key, least)}, key, least)
	}
	addIs(t, book{of(4, 1), of(5, least), of(6, 1)}, 5, least, of(4, 1), of(6, 1))
}

func TestAddOfZero(t *testing.T) {
	for _, l := range valids() {
		for key := range uint8(64) {
			addIs(t, l, key, 0, l...)
		}
	}
}

func TestAddOfWrongKeys(t *testing.T) {
	for _, l := range valids() {
		for _, key := range []uint8{64, 65, 69, 127, 128, 255} {
			for _, by := range []int64{0, 1, -1, least, greatest} {
				addFails(t, l, key, by)
			}
		}
	}
}

// TestOfWrongLedgers: also where the deltas are in range, or there is none, or they would mend the ledger.
func TestOfWrongLedgers(t *testing.T) {
	for name, l := range wrong() {
		t.Run(name, func(t *testing.T) {
			for _, key := range []uint8{0, 5, 6, 63, 64, 255} {
				for _, by := range []int64{0, 1, -1, least, greatest} {
					addFails(t, l, key, by)
					putFails(t, l, deltas{of(key, by)})
					putFails(t, l, deltas{of(1, 1), of(key, by)})
				}
			}
			putFails(t, l, nil)
			putFails(t, l, deltas{})
			sumFails(t, l, nil)
			sumFails(t, nil, l)
			for _, v := range valids() {
				sumFails(t, l, v)
				sumFails(t, v, l)
			}
			for _, w := range wrong() {
				sumFails(t, l, w)
			}
			_, e := less(t, l)
			fails(t, "Less of "+shown(l), e)
		})
	}
}

func TestPut(t *testing.T) {
	for _, l := range valids() {
		putIs(t, l, nil, l...)
		putIs(t, l, deltas{}, l...)
	}
	putIs(t, nil, deltas{of(5, 2)}, of(5, 2))
	putIs(t, nil, deltas{of(0, -1), of(63, least)}, of(0, -1), of(63, least))
	putIs(t, nil, deltas{of(63, 1), of(5, 2), of(0, 3)}, of(0, 3), of(5, 2), of(63, 1))
	l := book{of(5, 2), of(7, 4)}
	putIs(t, l, deltas{of(6, 1)}, of(5, 2), of(6, 1), of(7, 4))
	putIs(t, l, deltas{of(5, 1), of(7, -1)}, of(5, 3), of(7, 3))
	putIs(t, l, deltas{of(7, -4), of(5, -2)})
	putIs(t, l, deltas{of(8, 1), of(4, 1), of(7, -4)}, of(4, 1), of(5, 2), of(8, 1))
	putIs(t, nil, deltas(full()), full()...)
}

func TestPutOfOneKeySeveralTimes(t *testing.T) {
	putIs(t, nil, deltas{of(5, 1), of(5, 2), of(5, 3)}, of(5, 6))
	putIs(t, nil, deltas{of(5, 2), of(1, 7), of(5, 3)}, of(1, 7), of(5, 5))
	putIs(t, book{of(5, 1)}, deltas{of(5, 1), of(5, 1)}, of(5, 3))
	putIs(t, nil, deltas{of(5, greatest), of(5, 1)}, of(5, least))
	putIs(t, nil, deltas{of(5, least), of(5, -1)}, of(5, greatest))
	putIs(t, nil, deltas{of(5, greatest), of(5, greatest), of(5, 2), of(6, 1)}, of(6, 1))
}

func TestPutOfWhatIsZero(t *testing.T) {
	putIs(t, nil, deltas{of(5, 1), of(5, -1)})
	putIs(t, nil, deltas{of(5, least), of(5, least)})
	putIs(t, nil, deltas{of(2, 1), of(5, 1), of(2, -1)}, of(5, 1))
	putIs(t, book{of(5, 3)}, deltas{of(5, 1), of(5, -1)}, of(5, 3))
	putIs(t, nil, deltas{of(5, 0)})
	putIs(t, nil, deltas{of(0, 0), of(63, 0), of(5, 0), of(5, 0)})
	putIs(t, book{of(5, 3)}, deltas{of(5, 0), of(4, 0), of(6, 0)}, of(5, 3))
	putIs(t, book{of(5, 3)}, deltas{of(5, -3), of(5, 0)})
	// A number that becomes 0, and then another one again.
	putIs(t, book{of(4, 1), of(5, 3), of(6, 1)}, deltas{of(5, -3), of(5, 2)}, of(4, 1), of(5, 2), of(6, 1))
	putIs(t, nil, deltas{of(5, 1), of(5, -1), of(5, 7)}, of(5, 7))
	putIs(t, nil, deltas{of(5, 1), of(5, -1), of(5, 7), of(5, -7)})
}

func TestPutOfWrongKeys(t *testing.T) {
	for _, l := range valids() {
		for _, key := range []uint8{64, 65, 127, 128, 255} {
			for _, by := range []int64{0, 1, -1, least, greatest} {
				bad := of(key, by)
				putFails(t, l, deltas{bad})
				putFails(t, l, deltas{bad, of(5, 1), of(6, 1)})
				putFails(t, l, deltas{of(5, 1), bad, of(6, 1)})
				putFails(t, l, deltas{of(5, 1), of(6, 1), bad})
				putFails(t, l, deltas{of(key, 1), of(key, -1)})
				putFails(t, l, append(deltas(full()), bad))
			}
		}
	}
}

func TestPutOfVeryMany(t *testing.T) {
	var d deltas
	for i := range 200000 {
		d = append(d, of(uint8(i*27%64), int64(i%5-2)))
	}
	numbers := map[uint8]int64{}
	for _, x := range d {
		numbers[x.Key] += x.By
	}
	putIs(t, nil, d, ordered(numbers)...)
}

// P8.3

func TestSum(t *testing.T) {
	for _, l := range valids() {
		sumIs(t, l, nil, l...)
		sumIs(t, l, book{}, l...)
	}
	sumIs(t, nil, nil)
	// No key in common.
	sumIs(t, book{of(1, 1)}, book{of(2, 2)}, of(1, 1), of(2, 2))
	sumIs(t, book{of(0, 1), of(5, 1), of(63, 1)}, book{of(1, 2), of(62, 2)}, of(0, 1), of(1, 2), of(5, 1), of(62, 2), of(63, 1))
	sumIs(t, book{of(1, 1), of(2, 1)}, book{of(3, -1), of(4, -1)}, of(1, 1), of(2, 1), of(3, -1), of(4, -1))
	// Some, first, in the middle and last.
	sumIs(t, book{of(1, 1), of(3, 3)}, book{of(1, 5), of(2, 2)}, of(1, 6), of(2, 2), of(3, 3))
	sumIs(t, book{of(1, 1), of(2, 3), of(5, 1)}, book{of(0, 5), of(2, 2), of(6, 7)}, of(0, 5), of(1, 1), of(2, 5), of(5, 1), of(6, 7))
	sumIs(t, book{of(1, 1), of(63, 3)}, book{of(2, 2), of(63, -5)}, of(1, 1), of(2, 2), of(63, -2))
	// All.
	sumIs(t, book{of(5, 1)}, book{of(5, 1)}, of(5, 2))
	sumIs(t, book{of(0, 1), of(63, -1)}, book{of(0, 2), of(63, -2)}, of(0, 3), of(63, -3))
	// A sum that is 0.
	sumIs(t, book{of(5, 1)}, book{of(5, -1)})
	sumIs(t, book{of(5, least)}, book{of(5, least)})
	sumIs(t, book{of(4, 1), of(5, 1), of(6, 1)}, book{of(4, -1), of(5, 2), of(6, -1)}, of(5, 3))
	sumIs(t, book{of(4, 1), of(5, 1), of(6, 1)}, book{of(5, -1)}, of(4, 1), of(6, 1))
	// A sum that wraps around.
	sumIs(t, book{of(5, greatest)}, book{of(5, 1)}, of(5, least))
	sumIs(t, book{of(5, greatest)}, book{of(5, greatest)}, of(5, -2))
	sumIs(t, book{of(5, least)}, book{of(5, -1)}, of(5, greatest))
	sumIs(t, book{of(5, greatest)}, book{of(5, least)}, of(5, -1))
}

// TestSumWithItself: one memory may be both arguments.
func TestSumWithItself(t *testing.T) {
	l := book{of(0, 1), of(5, least), of(6, -7), of(63, greatest)}
	given := lend(l)
	result, e := ledger.Sum(given.deltas, given.deltas)
	given.apart(t, "Sum", result)
	is(t, "Sum with itself", result, e, book{of(0, 2), of(6, -14), of(63, -2)})

	given = lend(l)
	result, e = ledger.Put(given.deltas, given.deltas)
	given.apart(t, "Put", result)
	is(t, "Put of itself", result, e, book{of(0, 2), of(6, -14), of(63, -2)})
}

func TestLess(t *testing.T) {
	lessIs(t, nil)
	lessIs(t, book{})
	lessIs(t, book{of(5, 2)}, of(5, -2))
	lessIs(t, book{of(5, -2)}, of(5, 2))
	lessIs(t, book{of(5, greatest)}, of(5, least+1))
	lessIs(t, book{of(5, least+1)}, of(5, greatest))
	lessIs(t, book{of(5, least)}, of(5, least))
	lessIs(t, book{of(0, 1), of(5, least), of(62, -7), of(63, greatest)}, of(0, -1), of(5, least), of(62, 7), of(63, -greatest))
	opposite := full()
	for i := range opposite {
		opposite[i].By = -opposite[i].By
	}
	lessIs(t, full(), opposite...)
}

// The words of the chapter, told again in a way that does not lean on the order of the deltas.

func valid(l book) bool {
	for i, a := range l {
		if a.Key > 63 || a.By == 0 {
			return false
		}
		for _, b := range l[i+1:] {
			if b.Key <= a.Key {
				return false
			}
		}
	}
	return true
}

func firstOf(l book, key uint8) int64 {
	for i := range l {
		if l[i].Key == key {
			return l[i].By
		}
	}
	return 0
}

func ordered(numbers map[uint8]int64) book {
	var l book
	for key, by := range numbers {
		if by != 0 {
			l = append(l, of(key, by))
		}
	}
	slices.SortFunc(l, func(a, b api.Delta) int { return cmp.Compare(a.Key, b.Key) })
	return l
}

func summed(lists ...deltas) book {
	numbers := map[uint8]int64{}
	for _, l := range lists {
		for _, d := range l {
			numbers[d.Key] += d.By
		}
	}
	return ordered(numbers)
}

func negated(l deltas) deltas {
	var n deltas
	for _, d := range l {
		n = append(n, of(d.Key, -d.By))
	}
	return n
}

func putOf(l book, d deltas) (book, api.Errno) {
	if !valid(l) || slices.ContainsFunc(d, func(x api.Delta) bool { return x.Key > 63 }) {
		return l, api.ErrArg
	}
	return summed(l, d), api.OK
}

func sumOf(a, b book) (book, api.Errno) {
	if !valid(a) || !valid(b) {
		return nil, api.ErrArg
	}
	return summed(a, b), api.OK
}

func lessOf(l book) (book, api.Errno) {
	if !valid(l) {
		return nil, api.ErrArg
	}
	return negated(l), api.OK
}

// listsOf returns each list of at most n of the deltas, in each order and with repetitions.
func listsOf(n int, of deltas) []deltas {
	lists, longest := []deltas{nil}, []deltas{nil}
	for range n {
		var longer []deltas
		for _, l := range longest {
			for _, d := range of {
				longer = append(longer, append(slices.Clone(l), d))
			}
		}
		lists = append(lists, longer...)
		longest = longer
	}
	return lists
}

func deltasOf(keys []uint8, numbers []int64) deltas {
	var d deltas
	for _, key := range keys {
		for _, by := range numbers {
			d = append(d, of(key, by))
		}
	}
	return d
}

func agrees(t *testing.T, call string, got book, e api.Errno, want book, wantE api.Errno) {
	t.Helper()
	if e != wantE || !same(got, want) {
		t.Fatalf("%s: %v, %d, want %v, %d", call, got, e, want, wantE)
	}
}

// TestAllSmallLedgers holds each call on all small ledgers, valid or not, against the words of the chapter.
func TestAllSmallLedgers(t *testing.T) {
	for _, c := range []struct {
		n, m    int
		keys    []uint8
		numbers []int64
	}{
		{2, 1, []uint8{0, 1, 63, 64, 255}, []int64{least, -1, 0, 1, greatest}},
		{3, 1, []uint8{0, 63, 64}, []int64{-1, 0, 1}},
		{2, 2, []uint8{5, 6, 64}, []int64{least, 0, 1}},
		{3, 3, []uint8{5, 6}, []int64{1, -1}},
		{4, 1, []uint8{1, 2, 3, 4}, []int64{1}},
	} {
		elements := deltasOf(c.keys, c.numbers)
		others := listsOf(c.m, elements)
		for _, list := range listsOf(c.n, elements) {
			l := book(list)
			if ledger.Right(l) != valid(l) {
				t.Fatalf("Right of %v: %t", l, !valid(l))
			}
			got, e := ledger.Less(l)
			want, wantE := lessOf(l)
			agrees(t, fmt.Sprint("Less of ", l), got, e, want, wantE)
			for _, d := range elements {
				if n := ledger.Get(l, d.Key); n != firstOf(l, d.Key) {
					t.Fatalf("%v: Get of %d: %d", l, d.Key, n)
				}
				got, e := ledger.Add(l, d.Key, d.By)
				want, wantE := putOf(l, deltas{d})
				agrees(t, fmt.Sprint(l, ": Add of ", d), got, e, want, wantE)
			}
			for _, d := range others {
				got, e := ledger.Put(l, d)
				want, wantE := putOf(l, d)
				agrees(t, fmt.Sprint(l, ": Put of ", d), got, e, want, wantE)
				got, e = ledger.Sum(l, d)
				want, wantE = sumOf(l, d)
				agrees(t, fmt.Sprint(l, ": Sum with ", d), got, e, want, wantE)
				got, e = ledger.Sum(d, l)
				want, wantE = sumOf(d, l)
				agrees(t, fmt.Sprint(d, ": Sum with ", l), got, e, want, wantE)
			}
		}
	}
}

// P8.4

// orders calls see with the deltas in each order.
func orders(ahead, rest deltas, see func(deltas)) {
	if len(rest) == 0 {
		see(ahead)
		return
	}
	for i, d := range rest {
		others := slices.Delete(slices.Clone(rest), i, i+1)
		orders(append(slices.Clone(ahead), d), others, see)
	}
}

func TestAnyOrder(t *testing.T) {
	starts := []book{nil, {of(5, 1)}, {of(0, least), of(5, -3), of(63, greatest)}, full()}
	for _, d := range []deltas{
		{of(1, 1), of(2, 2), of(3, 3), of(4, 4)},
		{of(5, 1), of(5, 2), of(5, -3), of(6, 1), of(6, -1)},
		{of(0, greatest), of(0, 1), of(63, least), of(63, -1), of(63, 0)},
		{of(5, least), of(5, least), of(5, greatest), of(0, 5), of(0, 0)},
	} {
		for _, l := range starts {
			want := summed(l, d)
			orders(nil, d, func(d deltas) {
				putIs(t, l, d, want...)
				x, e := l, api.OK
				for _, one := range d {
					if x, e = add(t, x, one.Key, one.By); e != api.OK {
						t.Fatalf("%v: Add of %v: %d", l, one, e)
					}
				}
				ledgerIs(t, "one by one", x, want)
			})
		}
	}
}

func TestPutAndItsNegations(t *testing.T) {
	starts := []book{nil, {of(5, 1)}, {of(0, least), of(5, -3), of(63, greatest)}, full()}
	d := deltas{of(5, 3), of(0, least), of(63, 1), of(5, greatest), of(7, 0)}
	for _, l := range starts {
		there, e := put(t, l, d)
		if e != api.OK {
			t.Fatalf("%v: Put: %d", l, e)
		}
		orders(nil, negated(d), func(back deltas) { putIs(t, there, back, l...) })
		putIs(t, l, slices.Concat(d, negated(d)), l...)
		putIs(t, l, slices.Concat(negated(d), d), l...)
	}
}

// P8.5

// many are ledgers for laws that speak of several ones.
func many() []book {
	l := []book{nil, full(), {of(0, 1)}, {of(0, -1)}, {of(63, least)}, {of(63, greatest)}, {of(0, 1), of(63, 1)}}
	seed := uint32(7)
	for range 12 {
		var d deltas
		for range 6 {
			seed = seed*1664525 + 1013904223
			by := []int64{1, -1, 2, least, greatest, -3}[seed>>16%6]
			d = append(d, of(uint8(seed>>8%5*15), by))
		}
		l = append(l, summed(d))
	}
	return l
}

// sure is the Sum of valid ledgers.
func sure(t *testing.T, a, b book) book {
	t.Helper()
	l, e := sum(t, a, b)
	if e != api.OK {
		t.Fatalf("Sum of %v and %v: %d", a, b, e)
	}
	return l
}

func TestGroup(t *testing.T) {
	all := many()
	for _, a := range all {
		opposite, e := less(t, a)
		if e != api.OK {
			t.Fatalf("Less of %v: %d", a, e)
		}
		sumIs(t, a, opposite)
		lessIs(t, opposite, a...)
		for _, b := range all {
			ab := sure(t, a, b)
			ledgerIs(t, "Sum in the other order", sure(t, b, a), ab)
			ledgerIs(t, "Sum with the opposite of one", sure(t, ab, opposite), b)
			putIs(t, a, deltas(b), ab...)
			for _, c := range all {
				ledgerIs(t, "Sum of three", sure(t, ab, c), sure(t, a, sure(t, b, c)))
				ledgerIs(t, "Sum of three", sure(t, ab, c), summed(a, b, c))
			}
		}
	}
}

// TestGetOfSum: key by key.
func TestGetOfSum(t *testing.T) {
	for _, a := range many() {
		for _, b := range many() {
			ab := sure(t, a, b)
			for key := range uint8(64) {
				getIs(t, ab, key, firstOf(a, key)+firstOf(b, key))
			}
		}
	}
}

// TestSameAgain: an answer hangs on nothing but the arguments.
func TestSameAgain(t *testing.T) {
	l := book{of(5, 2), of(7, 4)}
	for range 3 {
		addIs(t, l, 5, -2, of(7, 4))
		putIs(t, l, deltas{of(7, 1), of(1, 1)}, of(1, 1), of(5, 2), of(7, 5))
		addFails(t, l, 64, 1)
		putFails(t, l, deltas{of(7, 1), of(64, 1)})
		sumIs(t, l, l, of(5, 4), of(7, 8))
		lessIs(t, l, of(5, -2), of(7, -4))
		getIs(t, l, 5, 2)
	}
}

// TestResultsAreApart: two answers share no memory either.
func TestResultsAreApart(t *testing.T) {
	l := book{of(5, 2), of(7, 4)}
	calls := map[string]func() book{
		"Add":                func() book { x, _ := ledger.Add(l, 1, 1); return x },
		"Add with an error":  func() book { x, _ := ledger.Add(l, 64, 1); return x },
		"Add of 0":           func() book { x, _ := ledger.Add(l, 5, 0); return x },
		"Put of none":        func() book { x, _ := ledger.Put(l, nil); return x },
		"Put with an error":  func() book { x, _ := ledger.Put(l, deltas{of(64, 1)}); return x },
		"Sum with an empty":  func() book { x, _ := ledger.Sum(l, nil); return x },
		"Sum from an empty":  func() book { x, _ := ledger.Sum(nil, l); return x },
		"Less":               func() book { x, _ := ledger.Less(l); return x },
		"Put on an empty":    func() book { x, _ := ledger.Put(nil, l); return x },
		"Add of a wrong one": func() book { x, _ := ledger.Add(book{of(5, 0)}, 1, 1); return x },
	}
	for name, call := range calls {
		one, two := call(), call()
		kept := slices.Clone(two)
		if len(one) == 0 {
			t.Errorf("%s: nothing to write to", name)
		}
		overwrite(one[:cap(one)])
		ledgerIs(t, name+": the other answer", two, kept)
		ledgerIs(t, name+": the argument", l, book{of(5, 2), of(7, 4)})
	}
}

func TestExample(t *testing.T) {
	l, e := add(t, nil, 3, 5)
	is(t, "Add of 5", l, e, book{of(3, 5)})
	addIs(t, l, 3, -5)
	addIs(t, book{of(3, greatest)}, 3, 1, of(3, least))
}
