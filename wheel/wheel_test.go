package wheel_test

import (
	"cmp"
	"maps"
	"math"
	"slices"
	"testing"

	"waystation/api"
	"waystation/wheel"
)

const maxTick = 1 << 40

type timers = []wheel.Timer

func wheelOf(now int64, l ...wheel.Timer) wheel.Wheel {
	return wheel.Wheel{Now: now, Timers: l}
}

// many are n timers in order, with the ids 0, 1, 2 and so on, that fire at from, from + 1, from + 2 and so on.
func many(n int, from int64) timers {
	l := make(timers, n)
	for i := range l {
		l[i] = wheel.Timer{Id: i, At: from + int64(i)}
	}
	return l
}

func wheelIs(t *testing.T, what string, got, want wheel.Wheel) {
	t.Helper()
	if got.Now != want.Now || !slices.Equal(got.Timers, want.Timers) {
		t.Errorf("%s: Now %d, %.200v (%d timers), want Now %d, %.200v (%d timers)",
			what, got.Now, got.Timers, len(got.Timers), want.Now, want.Timers, len(want.Timers))
	}
}

// lent is a wheel as an argument, in memory that has room behind its timers, and what that memory was.
type lent struct {
	wheel.Wheel
	memory, was timers
}

func lend(w wheel.Wheel) lent {
	spare := wheel.Timer{Id: -77, At: -77}
	memory := slices.Concat(w.Timers, timers{spare, spare})
	return lent{wheel.Wheel{Now: w.Now, Timers: memory[:len(w.Timers)]}, memory, slices.Clone(memory)}
}

func overwrite(l timers) {
	for i := range l {
		l[i] = wheel.Timer{Id: -99, At: -99}
	}
}

// apart checks that a call left its argument as it was, and that the wheel it returned shares no memory with it.
func (l lent) apart(t *testing.T, call string, result wheel.Wheel) {
	t.Helper()
	if !slices.Equal(l.memory, l.was) {
		t.Errorf("%s changed the timers that it was given", call)
	}
	all := result.Timers[:cap(result.Timers)]
	kept := slices.Clone(all)
	overwrite(all)
	if !slices.Equal(l.memory, l.was) {
		t.Errorf("%s: writing to its result changes its argument", call)
	}
	copy(all, kept)
	overwrite(l.memory)
	if !slices.Equal(all, kept) {
		t.Errorf("%s: writing to its argument changes its result", call)
	}
}

// checked looks at what each call that returns a wheel must keep to.
func checked(t *testing.T, call string, l lent, w, result wheel.Wheel, e api.Errno) {
	t.Helper()
	l.apart(t, call, result)
	if e != api.OK {
		wheelIs(t, call+" with an error", result, w)
	} else if !wheel.Right(result) {
		t.Errorf("%s returned a wheel that is not valid: Now %d, %.200v", call, result.Now, result.Timers)
	}
}

func set(t *testing.T, w wheel.Wheel, id int, at int64) (wheel.Wheel, api.Errno) {
	t.Helper()
	l := lend(w)
	result, e := wheel.Set(l.Wheel, id, at)
	checked(t, "Set", l, w, result, e)
	return result, e
}

func stop(t *testing.T, w wheel.Wheel, id int) (wheel.Wheel, api.Errno) {
	t.Helper()
	l := lend(w)
	result, e := wheel.Stop(l.Wheel, id)
	checked(t, "Stop", l, w, result, e)
	return result, e
}

func tick(t *testing.T, w wheel.Wheel, by int64) (wheel.Wheel, []int, api.Errno) {
	t.Helper()
	l := lend(w)
	result, fired, e := wheel.Tick(l.Wheel, by)
	checked(t, "Tick", l, w, result, e)
	if e != api.OK && len(fired) != 0 {
		t.Errorf("Tick by %d with the error %d returned %v", by, e, fired)
	}
	return result, fired, e
}

func setIs(t *testing.T, w wheel.Wheel, id int, at int64, want ...wheel.Timer) {
	t.Helper()
	result, e := set(t, w, id, at)
	if e != api.OK {
		t.Errorf("Set %d at %d: %d, want OK", id, at, e)
	}
	wheelIs(t, "Set", result, wheelOf(w.Now, want...))
}

func setFails(t *testing.T, w wheel.Wheel, id int, at int64, want api.Errno) {
	t.Helper()
	if _, e := set(t, w, id, at); e != want {
		t.Errorf("Set %d at %d, Now %d, %d timers: %d, want %d", id, at, w.Now, len(w.Timers), e, want)
	}
}

func stopIs(t *testing.T, w wheel.Wheel, id int, want ...wheel.Timer) {
	t.Helper()
	result, e := stop(t, w, id)
	if e != api.OK {
		t.Errorf("Stop %d: %d, want OK", id, e)
	}
	wheelIs(t, "Stop", result, wheelOf(w.Now, want...))
}

func stopFails(t *testing.T, w wheel.Wheel, id int, want api.Errno) {
	t.Helper()
	if _, e := stop(t, w, id); e != want {
		t.Errorf("Stop %d of %d timers: %d, want %d", id, len(w.Timers), e, want)
	}
}

func tickIs(t *testing.T, w wheel.Wheel, by int64, ids []int, rest ...wheel.Timer) {
	t.Helper()
	result, fired, e := tick(t, w, by)
	if e != api.OK || !slices.Equal(fired, ids) {
		t.Errorf("Tick by %d, Now %d: %.200v, %d, want %.200v, OK", by, w.Now, fired, e, ids)
	}
	wheelIs(t, "Tick", result, wheelOf(w.Now+by, rest...))
}

func tickFails(t *testing.T, w wheel.Wheel, by int64, want api.Errno) {
	t.Helper()
	if _, _, e := tick(t, w, by); e != want {
		t.Errorf("Tick by %d, Now %d: %d, want %d", by, w.Now, e, want)
	}
}

func nextIs(t *testing.T, w wheel.Wheel, want int64, is bool) {
	t.Helper()
	l := lend(w)
	if n, found := wheel.Next(l.Wheel); n != want || found != is {
		t.Errorf("Next, Now %d, %.200v: %d, %t, want %d, %t", w.Now, w.Timers, n, found, want, is)
	}
	l.apart(t, "Next", wheel.Wheel{})
}

func rightIs(t *testing.T, what string, w wheel.Wheel, want bool) {
	t.Helper()
	l := lend(w)
	if wheel.Right(l.Wheel) != want {
		t.Errorf("Right of %s: %t", what, !want)
	}
	l.apart(t, "Right", wheel.Wheel{})
}

// wrong are wheels that are not valid, each for one reason alone.
func wrong() map[string]wheel.Wheel {
	farApart := many(1000, 1)
	farApart[999].Id = 0
	lateOne := many(1000, 1)
	lateOne[999].At = maxTick + 1
	swapped := many(1000, 1)
	swapped[998], swapped[999] = swapped[999], swapped[998]
	return map[string]wheel.Wheel{
		"Now -1":                      wheelOf(-1),
		"Now -1 with a timer":         wheelOf(-1, wheel.Timer{Id: 1, At: 5}),
		"the least Now":               wheelOf(math.MinInt64),
		"Now above MaxTick":           wheelOf(maxTick + 1),
		"the greatest Now":            wheelOf(math.MaxInt64),
		"an At that is Now":           wheelOf(10, wheel.Timer{Id: 1, At: 10}),
		"an At that is Now, 0":        wheelOf(0, wheel.Timer{Id: 1, At: 0}),
		"an At that is Now, MaxTick":  wheelOf(maxTick, wheel.Timer{Id: 1, At: maxTick}),
		"an At below Now":             wheelOf(10, wheel.Timer{Id: 1, At: 9}, wheel.Timer{Id: 2, At: 11}),
		"the least At":                wheelOf(10, wheel.Timer{Id: 1, At: math.MinInt64}),
		"an At above MaxTick":         wheelOf(10, wheel.Timer{Id: 2, At: 11}, wheel.Timer{Id: 1, At: maxTick + 1}),
		"the greatest At":             wheelOf(maxTick, wheel.Timer{Id: 1, At: math.MaxInt64}),
		"an At above MaxTick, last":   wheelOf(0, lateOne...),
		"one more than MaxTx":         wheelOf(0, many(1001, 1)...),
		"many more than MaxTx":        wheelOf(0, many(5000, 1)...),
		"Ats out of order":            wheelOf(0, wheel.Timer{Id: 1, At: 6}, wheel.Timer{Id: 2, At: 5}),
		"Ats out of order, last":      wheelOf(0, swapped...),
		"one At, Ids out of order":    wheelOf(0, wheel.Timer{Id: 2, At: 5}, wheel.Timer{Id: 1, At: 5}),
		"one timer twice":             wheelOf(0, wheel.Timer{Id: 1, At: 5}, wheel.Timer{Id: 1, At: 5}),
		"one Id at two times":         wheelOf(0, wheel.Timer{Id: 1, At: 5}, wheel.Timer{Id: 1, At: 6}),
		"one Id, another between":     wheelOf(0, wheel.Timer{Id: 1, At: 5}, wheel.Timer{Id: 0, At: 6}, wheel.Timer{Id: 1, At: 6}),
		"one Id below 0 at two times": wheelOf(0, wheel.Timer{Id: -3, At: 5}, wheel.Timer{Id: -3, At: 6}),
		"one Id, first and last":      wheelOf(0, farApart...),
		"one At, an Id below 0 last":  wheelOf(0, wheel.Timer{Id: 1, At: 5}, wheel.Timer{Id: -1, At: 5}),
	}
}

// P6.1

func TestRight(t *testing.T) {
	oneAt := make(timers, 1000)
	for i := range oneAt {
		oneAt[i] = wheel.Timer{Id: i - 500, At: 7}
	}
	for name, w := range map[string]wheel.Wheel{
		"the zero value":            {},
		"no timer, Now 0":           wheelOf(0),
		"no timer, Now 1":           wheelOf(1),
		"an empty slice":            {Timers: timers{}},
		"no timer, MaxTick":         wheelOf(maxTick),
		"no timer, MaxTick - 1":     wheelOf(maxTick - 1),
		"one above Now":             wheelOf(10, wheel.Timer{Id: 1, At: 11}),
		"one above 0":               wheelOf(0, wheel.Timer{Id: 0, At: 1}),
		"MaxTick":                   wheelOf(0, wheel.Timer{Id: 1, At: maxTick}),
		"MaxTick, one above Now":    wheelOf(maxTick-1, wheel.Timer{Id: 1, At: maxTick}),
		"MaxTx timers":              wheelOf(0, many(1000, 1)...),
		"MaxTx timers to MaxTick":   wheelOf(maxTick-1000, many(1000, maxTick-999)...),
		"MaxTx timers with one At":  wheelOf(6, oneAt...),
		"one At, Ids in order":      wheelOf(0, wheel.Timer{Id: 1, At: 5}, wheel.Timer{Id: 2, At: 5}),
		"greater Id first":          wheelOf(0, wheel.Timer{Id: 2, At: 5}, wheel.Timer{Id: 1, At: 6}),
		"Ids below 0":               wheelOf(0, wheel.Timer{Id: -2, At: 5}, wheel.Timer{Id: -1, At: 5}, wheel.Timer{Id: 0, At: 5}),
		"the least and greatest Id": wheelOf(0, wheel.Timer{Id: math.MinInt, At: 5}, wheel.Timer{Id: math.MaxInt, At: 5}),
		"the greatest Id first":     wheelOf(0, wheel.Timer{Id: math.MaxInt, At: 5}, wheel.Timer{Id: math.MinInt, At: 6}),
	} {
		rightIs(t, name, w, true)
	}
	for name, w := range wrong() {
		rightIs(t, name, w, false)
	}
}

// TestWrongWheels: ErrArg goes ahead of each other error that would apply as well.
func TestWrongWheels(t *testing.T) {
	for name, w := range wrong() {
		t.Run(name, func(t *testing.T) {
			for _, id := range []int{1, 0, -3, 4242, math.MinInt, math.MaxInt} {
				for _, at := range []int64{math.MinInt64, -1, 0, w.Now, 5, 20, maxTick, maxTick + 1, math.MaxInt64} {
					setFails(t, w, id, at, api.ErrArg)
				}
				stopFails(t, w, id, api.ErrArg)
			}
			for _, by := range []int64{math.MinInt64, -1, 0, 1, 5, maxTick, maxTick + 1, math.MaxInt64} {
				tickFails(t, w, by, api.ErrArg)
			}
			nextIs(t, w, 0, false)
		})
	}
}

// P6.2

func TestSetTimes(t *testing.T) {
	for _, now := range []int64{0, 1, 10, maxTick - 1, maxTick} {
		w := wheelOf(now)
		for _, at := range []int64{now, now - 1, 0, -1, -maxTick, math.MinInt64} {
			setFails(t, w, 1, at, api.ErrOld)
		}
		for _, at := range []int64{maxTick + 1, maxTick + 2, math.MaxInt64} {
			setFails(t, w, 1, at, api.ErrBig)
		}
		for _, at := range []int64{now + 1, now + 2, maxTick} {
			if at > now && at <= maxTick {
				setIs(t, w, 1, at, wheel.Timer{Id: 1, At: at})
			}
		}
	}
}

// TestSetTimesOfTimers: the same errors where the id is there, which keeps its time then.
func TestSetTimesOfTimers(t *testing.T) {
	w := wheelOf(10, wheel.Timer{Id: 1, At: 12}, wheel.Timer{Id: 2, At: 14})
	for _, id := range []int{1, 2, 3} {
		setFails(t, w, id, 10, api.ErrOld)
		setFails(t, w, id, 9, api.ErrOld)
		setFails(t, w, id, maxTick+1, api.ErrBig)
	}
	setIs(t, w, 1, 11, wheel.Timer{Id: 1, At: 11}, wheel.Timer{Id: 2, At: 14})
	setIs(t, w, 1, maxTick, wheel.Timer{Id: 2, At: 14}, wheel.Timer{Id: 1, At: maxTick})
}

func TestSetInOrder(t *testing.T) {
	a, b, c := wheel.Timer{Id: 5, At: 10}, wheel.Timer{Id: 3, At: 20}, wheel.Timer{Id: 9, At: 30}
	w := wheelOf(0, a, b, c)
	for _, s := range []struct {
		id   int
		at   int64
		want timers
	}{
		{7, 1, timers{{Id: 7, At: 1}, a, b, c}},
		{7, 15, timers{a, {Id: 7, At: 15}, b, c}},
		{7, 25, timers{a, b, {Id: 7, At: 25}, c}},
		{7, 40, timers{a, b, c, {Id: 7, At: 40}}},
		{4, 10, timers{{Id: 4, At: 10}, a, b, c}},
		{6, 10, timers{a, {Id: 6, At: 10}, b, c}},
		{2, 20, timers{a, {Id: 2, At: 20}, b, c}},
		{4, 20, timers{a, b, {Id: 4, At: 20}, c}},
		{8, 30, timers{a, b, {Id: 8, At: 30}, c}},
		{10, 30, timers{a, b, c, {Id: 10, At: 30}}},
		{0, 20, timers{a, {Id: 0, At: 20}, b, c}},
		{-1, 20, timers{a, {Id: -1, At: 20}, b, c}},
		{math.MinInt, 20, timers{a, {Id: math.MinInt, At: 20}, b, c}},
		{math.MaxInt, 20, timers{a, b, {Id: math.MaxInt, At: 20}, c}},
	} {
		setIs(t, w, s.id, s.at, s.want...)
	}
}

func TestSetAnew(t *testing.T) {
	a, b, c := wheel.Timer{Id: 5, At: 10}, wheel.Timer{Id: 3, At: 20}, wheel.Timer{Id: 9, At: 30}
	w := wheelOf(2, a, b, c)
	for _, s := range []struct {
		id   int
		at   int64
		want timers
	}{
		{3, 20, timers{a, b, c}},
		{5, 10, timers{a, b, c}},
		{9, 30, timers{a, b, c}},
		{3, 3, timers{{Id: 3, At: 3}, a, c}},
		{3, 19, timers{a, {Id: 3, At: 19}, c}},
		{3, 21, timers{a, {Id: 3, At: 21}, c}},
		{3, 31, timers{a, c, {Id: 3, At: 31}}},
		{3, 10, timers{{Id: 3, At: 10}, a, c}},
		{3, 30, timers{a, {Id: 3, At: 30}, c}},
		{5, 3, timers{{Id: 5, At: 3}, b, c}},
		{5, 20, timers{b, {Id: 5, At: 20}, c}},
		{5, 30, timers{b, {Id: 5, At: 30}, c}},
		{5, maxTick, timers{b, c, {Id: 5, At: maxTick}}},
		{9, 10, timers{a, {Id: 9, At: 10}, b}},
		{9, 20, timers{a, b, {Id: 9, At: 20}}},
		{9, 31, timers{a, b, {Id: 9, At: 31}}},
	} {
		setIs(t, w, s.id, s.at, s.want...)
	}
	only := wheelOf(2, a)
	setIs(t, only, 5, 3, wheel.Timer{Id: 5, At: 3})
	setIs(t, only, 5, 10, a)
	setIs(t, only, 5, 11, wheel.Timer{Id: 5, At: 11})
}

func TestSetOfIdsAtTheEnds(t *testing.T) {
	least, greatest := wheel.Timer{Id: math.MinInt, At: 5}, wheel.Timer{Id: math.MaxInt, At: 5}
	setIs(t, wheelOf(0, greatest), math.MinInt, 5, least, greatest)
	setIs(t, wheelOf(0, least), math.MaxInt, 5, least, greatest)
	setIs(t, wheelOf(0, least, greatest), -1, 5, least, wheel.Timer{Id: -1, At: 5}, greatest)
	setIs(t, wheelOf(0, least, greatest), math.MinInt, 6, greatest, wheel.Timer{Id: math.MinInt, At: 6})
	stopIs(t, wheelOf(0, least, greatest), math.MinInt, greatest)
	stopIs(t, wheelOf(0, least, greatest), math.MaxInt, least)
	tickIs(t, wheelOf(0, least, greatest), 5, []int{math.MinInt, math.MaxInt})
}

func TestSetWhereItIsFull(t *testing.T) {
	full := wheelOf(3, many(1000, 5)...)
	for _, id := range []int{1000, -1, math.MinInt, math.MaxInt} {
		setFails(t, full, id, 4, api.ErrFull)
		setFails(t, full, id, 500, api.ErrFull)
		setFails(t, full, id, maxTick, api.ErrFull)
		setFails(t, full, id, 3, api.ErrOld)
		setFails(t, full, id, math.MinInt64, api.ErrOld)
		setFails(t, full, id, maxTick+1, api.ErrBig)
	}
	for _, id := range []int{0, 500, 999} {
		rest := slices.Delete(many(1000, 5), id, id+1)
		setIs(t, full, id, 4, append(timers{{Id: id, At: 4}}, rest...)...)
		setIs(t, full, id, int64(5+id), full.Timers...)
		setIs(t, full, id, maxTick, append(rest, wheel.Timer{Id: id, At: maxTick})...)
	}
}

func TestSetUntilItIsFull(t *testing.T) {
	w := wheelOf(0)
	for i := range 1000 {
		// 7 and 1000 have no common divisor, so each id and each time comes once, and out of order.
		k := i * 7 % 1000
		next, e := set(t, w, k, int64(k+1))
		if e != api.OK || len(next.Timers) != i+1 {
			t.Fatalf("Set, number %d: %d, %d timers", i, e, len(next.Timers))
		}
		w = next
	}
	wheelIs(t, "all timers", w, wheelOf(0, many(1000, 1)...))
	setFails(t, w, 1000, 5, api.ErrFull)
	w, _ = stop(t, w, 400)
	setFails(t, w, 1000, 0, api.ErrOld)
	w, e := set(t, w, 1000, 401)
	if e != api.OK || w.Timers[400] != (wheel.Timer{Id: 1000, At: 401}) {
		t.Errorf("Set in the place of a stopped timer: %d, %v", e, w.Timers[400])
	}
	setFails(t, w, 400, 401, api.ErrFull)
}

func TestStop(t *testing.T) {
	a, b, c := wheel.Timer{Id: 5, At: 10}, wheel.Timer{Id: -3, At: 20}, wheel.Timer{Id: 9, At: 20}
	w := wheelOf(7, a, b, c)
	stopIs(t, w, 5, b, c)
	stopIs(t, w, -3, a, c)
	stopIs(t, w, 9, a, b)
	stopIs(t, wheelOf(7, a), 5)
	for _, id := range []int{0, 3, -5, 10, 20, math.MinInt, math.MaxInt} {
		stopFails(t, w, id, api.ErrNone)
		stopFails(t, wheelOf(7), id, api.ErrNone)
		stopFails(t, wheelOf(maxTick), id, api.ErrNone)
	}
	full := wheelOf(3, many(1000, 5)...)
	for _, id := range []int{0, 1, 500, 998, 999} {
		stopIs(t, full, id, slices.Delete(many(1000, 5), id, id+1)...)
	}
	stopFails(t, full, 1000, api.ErrNone)
	stopFails(t, full, -1, api.ErrNone)
}

// P6.3

func TestTick(t *testing.T) {
	a, b, c, d := wheel.Timer{Id: 5, At: 10}, wheel.Timer{Id: -3, At: 20}, wheel.Timer{Id: 9, At: 20}, wheel.Timer{Id: 0, At: maxTick}
	w := wheelOf(7, a, b, c, d)
	tickIs(t, w, 0, nil, a, b, c, d)
	tickIs(t, w, 1, nil, a, b, c, d)
	tickIs(t, w, 2, nil, a, b, c, d)
	tickIs(t, w, 3, []int{5}, b, c, d)
	tickIs(t, w, 4, []int{5}, b, c, d)
	tickIs(t, w, 12, []int{5}, b, c, d)
	tickIs(t, w, 13, []int{5, -3, 9}, d)
	tickIs(t, w, 14, []int{5, -3, 9}, d)
	tickIs(t, w, maxTick-8, []int{5, -3, 9}, d)
	tickIs(t, w, maxTick-7, []int{5, -3, 9, 0})
	tickFails(t, w, maxTick-6, api.ErrBig)
	tickIs(t, wheelOf(7, a, b, c), 1000, []int{5, -3, 9})
	full := wheelOf(3, many(1000, 5)...)
	tickIs(t, full, 1, nil, full.Timers...)
	tickIs(t, full, 501, idsOf(full.Timers[:500]), full.Timers[500:]...)
	tickIs(t, full, 1001, idsOf(full.Timers))
	tickIs(t, full, maxTick-3, idsOf(full.Timers))
}

func TestTickBy(t *testing.T) {
	for _, now := range []int64{0, 1, 10, maxTick - 1, maxTick} {
		l := timers{}
		if now < maxTick {
			l = append(l, wheel.Timer{Id: 1, At: maxTick})
		}
		w := wheelOf(now, l...)
		tickIs(t, w, 0, nil, l...)
		if now < maxTick {
			tickIs(t, w, maxTick-now, []int{1})
		}
		for _, by := range []int64{-1, -now - 1, -maxTick, math.MinInt64, math.MinInt64 + 1} {
			tickFails(t, w, by, api.ErrArg)
		}
		for _, by := range []int64{maxTick - now + 1, maxTick + 1, math.MaxInt64 - now, math.MaxInt64 - now + 1, math.MaxInt64} {
			if by > maxTick-now {
				tickFails(t, w, by, api.ErrBig)
			}
		}
	}
}

func idsOf(l timers) []int {
	var ids []int
	for _, x := range l {
		ids = append(ids, x.Id)
	}
	return ids
}

// TestEmptyAndNil: a wheel without timers is the same one, however its slice is.
func TestEmptyAndNil(t *testing.T) {
	for _, w := range []wheel.Wheel{{Now: 5}, {Now: 5, Timers: timers{}}, {Now: 5, Timers: many(3, 9)[:0]}} {
		if got, e := wheel.Set(w, 1, 6); e != api.OK {
			t.Errorf("Set: %d", e)
		} else {
			wheelIs(t, "Set", got, wheelOf(5, wheel.Timer{Id: 1, At: 6}))
		}
		got, fired, e := wheel.Tick(w, 3)
		if e != api.OK || len(fired) != 0 {
			t.Errorf("Tick: %v, %d", fired, e)
		}
		wheelIs(t, "Tick", got, wheelOf(8))
		if _, e := wheel.Stop(w, 1); e != api.ErrNone {
			t.Errorf("Stop: %d", e)
		}
		if _, found := wheel.Next(w); found || !wheel.Right(w) {
			t.Error("Next, or Right")
		}
	}
}

// TestSameAgain: what a call returns hangs on its arguments alone.
func TestSameAgain(t *testing.T) {
	w := wheelOf(2, many(5, 4)...)
	for range 3 {
		setIs(t, w, 9, 3, append(timers{{Id: 9, At: 3}}, w.Timers...)...)
		stopIs(t, w, 0, w.Timers[1:]...)
		tickIs(t, w, 3, []int{0, 1}, w.Timers[2:]...)
		nextIs(t, w, 2, true)
	}
}

// P6.4

func TestNext(t *testing.T) {
	for _, now := range []int64{0, 10, maxTick} {
		nextIs(t, wheelOf(now), 0, false)
	}
	nextIs(t, wheelOf(0, wheel.Timer{Id: 7, At: 1}), 1, true)
	nextIs(t, wheelOf(10, wheel.Timer{Id: 0, At: 11}), 1, true)
	nextIs(t, wheelOf(10, wheel.Timer{Id: 7, At: 15}), 5, true)
	nextIs(t, wheelOf(10, wheel.Timer{Id: 7, At: 15}, wheel.Timer{Id: 8, At: 15}, wheel.Timer{Id: 1, At: 16}), 5, true)
	nextIs(t, wheelOf(0, wheel.Timer{Id: -7, At: maxTick}), maxTick, true)
	nextIs(t, wheelOf(maxTick-1, wheel.Timer{Id: 7, At: maxTick}), 1, true)
	nextIs(t, wheelOf(3, many(1000, 5)...), 2, true)
}

// TestNextTellsTick: no timer fires ahead of the time that Next tells, and the first one does at that time.
func TestNextTellsTick(t *testing.T) {
	for _, w := range someWheels() {
		n, found := wheel.Next(w)
		if !found {
			tickIs(t, w, maxTick-w.Now, nil)
			continue
		}
		tickIs(t, w, n-1, nil, w.Timers...)
		if _, fired, _ := tick(t, w, n); len(fired) == 0 || fired[0] != w.Timers[0].Id {
			t.Errorf("Tick by what Next tells fires %v", fired)
		}
	}
}

// P6.5

func someWheels() []wheel.Wheel {
	packed := make(timers, 60)
	for i := range packed {
		packed[i] = wheel.Timer{Id: i * 7 % 60, At: 3 + int64(i/5)}
	}
	slices.SortFunc(packed, inOrder)
	return []wheel.Wheel{
		wheelOf(0),
		wheelOf(2, packed...),
		wheelOf(0, many(20, 1)...),
		wheelOf(3, wheel.Timer{Id: 2, At: 4}, wheel.Timer{Id: -1, At: 9}, wheel.Timer{Id: 1, At: 9}, wheel.Timer{Id: 0, At: 30}),
		wheelOf(maxTick-20, many(20, maxTick-19)...),
		wheelOf(maxTick),
	}
}

func inOrder(a, b wheel.Timer) int {
	return cmp.Or(cmp.Compare(a.At, b.At), cmp.Compare(a.Id, b.Id))
}

// ticks advances the clock by each of the steps, and returns all ids that fired.
func ticks(t *testing.T, w wheel.Wheel, steps ...int64) (wheel.Wheel, []int) {
	t.Helper()
	var all []int
	for _, by := range steps {
		next, fired, e := tick(t, w, by)
		if e != api.OK {
			t.Fatalf("Tick by %d, Now %d: %d", by, w.Now, e)
		}
		w, all = next, append(all, fired...)
	}
	return w, all
}

func TestPieces(t *testing.T) {
	for _, w := range someWheels() {
		for total := int64(0); total <= min(40, maxTick-w.Now); total++ {
			end, all := ticks(t, w, total)
			for size := int64(1); size <= total; size++ {
				var steps []int64
				for left := total; left > 0; left -= size {
					steps = append(steps, min(size, left))
				}
				for _, pieces := range [][]int64{steps, reversed(steps), slices.Concat([]int64{0}, steps, []int64{0, 0})} {
					got, fired := ticks(t, w, pieces...)
					wheelIs(t, "Tick in pieces", got, end)
					if !slices.Equal(fired, all) {
						t.Errorf("Now %d, Tick by %d fires %v, by %v it fires %v", w.Now, total, all, pieces, fired)
					}
				}
			}
		}
	}
}

func reversed(l []int64) []int64 {
	l = slices.Clone(l)
	slices.Reverse(l)
	return l
}

func TestPiecesOfAllTime(t *testing.T) {
	w := wheelOf(0, append(many(500, 1), wheel.Timer{Id: 600, At: maxTick / 2}, wheel.Timer{Id: 599, At: maxTick/2 + 1}, wheel.Timer{Id: 598, At: maxTick})...)
	end, all := ticks(t, w, maxTick)
	if !slices.Equal(all, idsOf(w.Timers)) {
		t.Errorf("Tick to MaxTick fires %v", all)
	}
	for _, pieces := range [][]int64{{1, maxTick - 1}, {maxTick - 1, 1}, {maxTick / 2, maxTick / 2}, {250, maxTick/2 - 250, 1, 0, maxTick/2 - 1}} {
		got, fired := ticks(t, w, pieces...)
		wheelIs(t, "Tick in pieces", got, end)
		if !slices.Equal(fired, all) {
			t.Errorf("Tick by %v fires %v", pieces, fired)
		}
	}
}

// P6.6

func TestFiresOnce(t *testing.T) {
	w := wheelOf(0, many(3, 5)...)
	w, fired := ticks(t, w, 6)
	if !slices.Equal(fired, []int{0, 1}) {
		t.Errorf("fired: %v", fired)
	}
	stopFails(t, w, 0, api.ErrNone)
	w, fired = ticks(t, w, 0, 1, 0, 100, maxTick-107)
	if !slices.Equal(fired, []int{2}) {
		t.Errorf("fired later: %v", fired)
	}
}

func TestFiresAgainIfSetAgain(t *testing.T) {
	w, fired := ticks(t, wheelOf(0, wheel.Timer{Id: 4, At: 5}), 5)
	w, e := set(t, w, 4, 8)
	if e != api.OK || !slices.Equal(fired, []int{4}) {
		t.Fatalf("fired: %v, then Set: %d", fired, e)
	}
	w, fired = ticks(t, w, 2)
	if len(fired) != 0 {
		t.Errorf("fired ahead of its time: %v", fired)
	}
	if _, fired = ticks(t, w, 1, 1, 100); !slices.Equal(fired, []int{4}) {
		t.Errorf("fired after it was set again: %v", fired)
	}
}

func TestStoppedDoesNotFire(t *testing.T) {
	w, e := stop(t, wheelOf(0, many(3, 5)...), 1)
	if e != api.OK {
		t.Fatalf("Stop: %d", e)
	}
	if _, fired := ticks(t, w, 5, 1, 1, 100); !slices.Equal(fired, []int{0, 2}) {
		t.Errorf("fired: %v", fired)
	}
}

func TestSetAnewFiresAtTheNewTimeAlone(t *testing.T) {
	for _, at := range []int64{3, 5, 9} {
		w, e := set(t, wheelOf(0, wheel.Timer{Id: 1, At: 5}, wheel.Timer{Id: 2, At: 7}), 1, at)
		if e != api.OK {
			t.Fatalf("Set: %d", e)
		}
		for now := int64(1); now <= 20; now++ {
			var fired []int
			w, fired = ticks(t, w, 1)
			if slices.Contains(fired, 1) != (now == at) {
				t.Errorf("set anew to %d: at %d there fires %v", at, now, fired)
			}
		}
	}
}

// plain is a wheel told in another way: a time for each id, and a clock that goes on by one at a time.
type plain struct {
	now int64
	at  map[int]int64
}

func (p *plain) set(id int, at int64) api.Errno {
	_, there := p.at[id]
	switch {
	case at <= p.now:
		return api.ErrOld
	case at > maxTick:
		return api.ErrBig
	case !there && len(p.at) == 1000:
		return api.ErrFull
	}
	p.at[id] = at
	return api.OK
}

func (p *plain) stop(id int) api.Errno {
	if _, there := p.at[id]; !there {
		return api.ErrNone
	}
	delete(p.at, id)
	return api.OK
}

func (p *plain) tick(by int64) ([]int, api.Errno) {
	if by < 0 {
		return nil, api.ErrArg
	}
	if p.now+by > maxTick {
		return nil, api.ErrBig
	}
	var fired []int
	for range by {
		p.now++
		for _, id := range slices.Sorted(maps.Keys(p.at)) {
			if p.at[id] == p.now {
				fired = append(fired, id)
				delete(p.at, id)
			}
		}
	}
	return fired, api.OK
}

func (p *plain) wheel() wheel.Wheel {
	var l timers
	for id, at := range p.at {
		l = append(l, wheel.Timer{Id: id, At: at})
	}
	slices.SortFunc(l, inOrder)
	return wheelOf(p.now, l...)
}

// TestAgainstPlainClock does long mixed runs of all calls, the last of them up to MaxTick, and holds each answer against a plain clock.
func TestAgainstPlainClock(t *testing.T) {
	for run, start := range []int64{0, 100, maxTick - 3000, maxTick - 30} {
		p := &plain{now: start, at: map[int]int64{}}
		w := wheelOf(start)
		seed := uint32(run + 1)
		for step := range 2000 {
			seed = seed*1664525 + 1013904223
			id, span := int(seed>>8%24)-4, int64(seed>>16%12)-1
			var got, want api.Errno
			var fired, wanted []int
			switch seed >> 28 % 8 {
			case 0:
				w, got = stop(t, w, id)
				want = p.stop(id)
			case 1, 2:
				w, fired, got = tick(t, w, span/3)
				wanted, want = p.tick(span / 3)
			case 3:
				w, fired, got = tick(t, w, span)
				wanted, want = p.tick(span)
			default:
				w, got = set(t, w, id, w.Now+span)
				want = p.set(id, p.now+span)
			}
			if got != want || !slices.Equal(fired, wanted) {
				t.Errorf("answered %v, %d, want %v, %d", fired, got, wanted, want)
			}
			wheelIs(t, "the wheel", w, p.wheel())
			if len(w.Timers) > 0 {
				nextIs(t, w, w.Timers[0].At-p.now, true)
			}
			if t.Failed() {
				t.Fatalf("run %d, step %d", run, step)
			}
		}
	}
}

func TestExample(t *testing.T) {
	w, _ := set(t, wheelOf(0), 7, 5)
	w, _ = set(t, w, 8, 3)
	w, fired, e := tick(t, w, 4)
	if e != api.OK || !slices.Equal(fired, []int{8}) {
		t.Errorf("Tick(4) = %v, %d", fired, e)
	}
	tickIs(t, w, 1, []int{7})
}
