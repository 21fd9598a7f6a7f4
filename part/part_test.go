package part_test

import (
	"fmt"
	"math"
	"slices"
	"testing"

	"waystation/api"
	"waystation/part"
)

type deltas = []api.Delta

const (
	least    = math.MinInt64
	greatest = math.MaxInt64
)

func of(key uint8, by int64) api.Delta { return api.Delta{Key: key, By: by} }

func same(a, b deltas) bool { return slices.Equal(a, b) }

func samePart(a, b part.Part) bool {
	return a.State == b.State && a.Local == b.Local && a.Outcome == b.Outcome && same(a.Adds, b.Adds)
}

// shown tells deltas in a line, and not all of them if they are many.
func shown(l deltas) string {
	if len(l) > 12 {
		return fmt.Sprintf("%v and more, %d in all", l[:12], len(l))
	}
	return fmt.Sprint(l)
}

func shownPart(p part.Part) string {
	return fmt.Sprintf("{State %d, Local %t, Outcome %d, Adds %s}", p.State, p.Local, p.Outcome, shown(p.Adds))
}

// lend returns a part whose Adds have room behind them, and all of the memory that they lie in.
func lend(p part.Part) (part.Part, deltas) {
	memory := slices.Concat(p.Adds, deltas{of(77, -77), of(77, -77)})
	p.Adds = memory[:len(p.Adds)]
	return p, memory
}

// apart checks that no two of the lists share memory, also behind their ends.
func apart(t *testing.T, call string, lists ...deltas) {
	t.Helper()
	for i, l := range lists {
		lists[i] = l[:cap(l)]
	}
	for i, l := range lists {
		var was []deltas
		for _, other := range lists {
			was = append(was, slices.Clone(other))
		}
		for k := range l {
			l[k] = of(99, int64(i)-99)
		}
		for j, other := range lists {
			if j != i && !same(other, was[j]) {
				t.Errorf("%s: lists %d and %d share memory", call, i, j)
			}
		}
		copy(l, was[i])
	}
}

// The calls, with what each of them must keep to, whatever it is given: the argument stays as it was, no memory is shared, and with an error the part comes back and nothing changes.

// answer is what a call returned.
type answer struct {
	part.Part
	changes deltas
	e       api.Errno
}

func (a answer) same(b answer) bool {
	return a.e == b.e && samePart(a.Part, b.Part) && same(a.changes, b.changes)
}

func (a answer) String() string {
	return fmt.Sprintf("%s, changes %s, error %d", shownPart(a.Part), shown(a.changes), a.e)
}

// step is a call on a part.
type step struct {
	name string
	call func(part.Part) answer
}

func (s step) on(t *testing.T, p part.Part) answer {
	t.Helper()
	name := shownPart(p) + ": " + s.name
	given, memory := lend(p)
	was := slices.Clone(memory)
	got := s.call(given)
	if !same(memory, was) {
		t.Errorf("%s changed what it was given", name)
	}
	if got.e != api.OK && (!samePart(got.Part, p) || len(got.changes) != 0) {
		t.Errorf("%s with an error: %s", name, got)
	}
	again := s.call(given)
	if !got.same(again) {
		t.Errorf("%s: %s, and then %s", name, got, again)
	}
	apart(t, name, memory, got.Adds, got.changes, again.Adds, again.changes)
	return got
}

// is checks what a call returns.
func (s step) is(t *testing.T, p part.Part, want answer) answer {
	t.Helper()
	got := s.on(t, p)
	if !got.same(want) {
		t.Errorf("%s: %s: %s, want %s", shownPart(p), s.name, got, want)
	}
	return got
}

// fails checks that a call returns an error.
func (s step) fails(t *testing.T, p part.Part, want api.Errno) {
	t.Helper()
	s.is(t, p, answer{p, nil, want})
}

func add(d api.Delta) step {
	return step{fmt.Sprintf("Add %v", d), func(p part.Part) answer {
		next, e := part.Add(p, d)
		return answer{next, nil, e}
	}}
}

func vote(yes bool) step {
	return step{fmt.Sprintf("Vote %t", yes), func(p part.Part) answer {
		next, e := part.Vote(p, yes)
		return answer{next, nil, e}
	}}
}

func local() step {
	return step{"Local", func(p part.Part) answer {
		next, changes, e := part.Local(p)
		return answer{next, changes, e}
	}}
}

func decide(outcome int) step {
	return step{fmt.Sprintf("Decide %d", outcome), func(p part.Part) answer {
		next, changes, e := part.Decide(p, outcome)
		return answer{next, changes, e}
	}}
}

func right(t *testing.T, p part.Part) bool {
	t.Helper()
	given, memory := lend(p)
	was := slices.Clone(memory)
	is := part.Right(given)
	if !same(memory, was) {
		t.Errorf("%s: Right changed what it was given", shownPart(p))
	}
	return is
}

func effect(t *testing.T, p part.Part) deltas {
	t.Helper()
	given, memory := lend(p)
	was := slices.Clone(memory)
	l, again := part.Effect(given), part.Effect(given)
	if !same(memory, was) {
		t.Errorf("%s: Effect changed what it was given", shownPart(p))
	}
	if !same(l, again) {
		t.Errorf("%s: Effect: %s, and then %s", shownPart(p), shown(l), shown(again))
	}
	apart(t, shownPart(p)+": Effect", memory, l, again)
	return l
}

func effectIs(t *testing.T, p part.Part, want ...api.Delta) {
	t.Helper()
	if got := effect(t, p); !same(got, want) {
		t.Errorf("%s: Effect: %s, want %s", shownPart(p), shown(got), shown(want))
	}
}

// shape is a part but for its Adds.
type shape struct {
	state   int
	local   bool
	outcome int
}

func (s shape) with(adds deltas) part.Part {
	return part.Part{State: s.state, Adds: adds, Local: s.local, Outcome: s.outcome}
}

// The eight shapes that a valid part may have.
var (
	running       = shape{part.Run, false, api.Open}
	ready         = shape{part.Ready, false, api.Open}
	readyLocal    = shape{part.Ready, true, api.Open}
	refused       = shape{part.Refused, false, api.Open}
	committed     = shape{part.Done, false, api.Commit}
	committedHere = shape{part.Done, true, api.Commit}
	aborted       = shape{part.Done, false, api.Abort}
	abortedHere   = shape{part.Done, true, api.Abort}
)

func validShapes() []shape {
	return []shape{running, ready, readyLocal, refused, committed, committedHere, aborted, abortedHere}
}

// allShapes are those of the states, the outcomes and numbers around them, valid or not.
func allShapes() []shape {
	var l []shape
	for _, state := range []int{math.MinInt, -1, 0, 1, 2, 3, 4, 256, math.MaxInt} {
		for _, outcome := range []int{math.MinInt, -1, 0, 1, 2, 3, 257, math.MaxInt} {
			l = append(l, shape{state, false, outcome}, shape{state, true, outcome})
		}
	}
	return l
}

// many are n deltas with all keys and both signs among them, the edges of int64 too.
func many(n int) deltas {
	l := make(deltas, 0, n)
	for i := range n {
		l = append(l, of(uint8(63-i%64), int64(i*i)-1000))
	}
	for i, by := range []int64{least, greatest, 0, 1, -1} {
		if i < n {
			l[n-1-i].By = by
		}
	}
	return l
}

// goodAdds are the Adds of valid parts, each with its compensation.
func goodAdds() []struct{ adds, back deltas } {
	return []struct{ adds, back deltas }{
		{nil, nil},
		{deltas{}, nil},
		{deltas{of(1, 5)}, deltas{of(1, -5)}},
		{deltas{of(0, 0)}, deltas{of(0, 0)}},
		{deltas{of(0, 1)}, deltas{of(0, -1)}},
		{deltas{of(63, -1)}, deltas{of(63, 1)}},
		{deltas{of(5, greatest)}, deltas{of(5, -greatest)}},
		{deltas{of(5, least)}, deltas{of(5, least)}},
		{deltas{of(1, 5), of(2, -3)}, deltas{of(2, 3), of(1, -5)}},
		{deltas{of(7, 2), of(7, 2)}, deltas{of(7, -2), of(7, -2)}},
		{deltas{of(7, 2), of(7, -2)}, deltas{of(7, 2), of(7, -2)}},
		{
			deltas{of(63, least), of(0, greatest), of(5, 0), of(63, 1), of(4, -1)},
			deltas{of(4, 1), of(63, -1), of(5, 0), of(0, -greatest), of(63, least)},
		},
		{many(49), undone(many(49))},
		{many(50), undone(many(50))},
	}
}

// undone is the compensation of deltas, as the chapter says it.
func undone(l deltas) deltas {
	var back deltas
	for _, d := range l {
		back = slices.Insert(back, 0, of(d.Key, 0-d.By))
	}
	return back
}

// wrongAdds are Adds that no valid part has.
func wrongAdds() map[string]deltas {
	l := map[string]deltas{
		"51":              many(51),
		"1000":            many(1000),
		"64 alone":        {of(64, 1)},
		"255 alone":       {of(255, 1)},
		"64 by 0":         {of(64, 0)},
		"64, 51 of them":  slices.Repeat(deltas{of(64, 1)}, 51),
		"51 of no change": slices.Repeat(deltas{of(0, 0)}, 51),
		"51 of edge keys": slices.Repeat(deltas{of(63, 1)}, 51),
	}
	for _, key := range []uint8{64, 65, 128, 255} {
		for place, i := range map[string]int{"first": 0, "in the middle": 2, "last": 4} {
			adds := deltas{of(0, 1), of(63, 2), of(1, 3), of(62, 4), of(5, 5)}
			adds[i].Key = key
			l[fmt.Sprintf("Key %d %s", key, place)] = adds
		}
		for place, i := range map[string]int{"first": 0, "in the middle": 25, "last": 49} {
			adds := many(50)
			adds[i].Key = key
			l[fmt.Sprintf("Key %d %s of 50", key, place)] = adds
		}
	}
	return l
}

// allSteps are calls of each kind, with arguments that may be and others.
func allSteps() []step {
	l := []step{vote(true), vote(false), local()}
	for _, d := range []api.Delta{of(0, 0), of(63, 1), of(5, least), of(64, 1), of(255, 0)} {
		l = append(l, add(d))
	}
	for _, outcome := range []int{math.MinInt, -1, api.Open, api.Commit, api.Abort, 3, 257, math.MaxInt} {
		l = append(l, decide(outcome))
	}
	return l
}

// The states

func TestStates(t *testing.T) {
	got := []int{part.Run, part.Ready, part.Refused, part.Done}
	if !slices.Equal(got, []int{0, 1, 2, 3}) {
		t.Errorf("the states: %v", got)
	}
	// An untyped constant is of any integer type, as the chapter has it.
	if b := uint8(1) + part.Done; b != 4 {
		t.Errorf("Done as a byte, and 1: %d", b)
	}
}

// P9.1

func TestRightOfEachShape(t *testing.T) {
	for _, s := range allShapes() {
		want := slices.Contains(validShapes(), s)
		for _, c := range goodAdds() {
			if p := s.with(c.adds); right(t, p) != want {
				t.Errorf("%s: Right: %t", shownPart(p), !want)
			}
		}
	}
}

func TestRightOfWrongAdds(t *testing.T) {
	for name, adds := range wrongAdds() {
		for _, s := range validShapes() {
			if right(t, s.with(adds)) {
				t.Errorf("Right of %v with Adds %s: true", s, name)
			}
		}
	}
}

// TestRightByNumberOfAdds: 50 may be, and not one more, in each shape.
func TestRightByNumberOfAdds(t *testing.T) {
	for n := range 103 {
		for _, s := range validShapes() {
			if is := right(t, s.with(many(n))); is != (n <= 50) {
				t.Errorf("Right of %v with %d Adds: %t", s, n, is)
			}
		}
	}
}

// TestRightByKey: each key, at each of three places.
func TestRightByKey(t *testing.T) {
	for key := range 256 {
		for i := range 3 {
			adds := deltas{of(1, 1), of(2, 2), of(3, 3)}
			adds[i].Key = uint8(key)
			if is := right(t, running.with(adds)); is != (key < 64) {
				t.Errorf("Right with %s: %t", shown(adds), is)
			}
		}
	}
}

func TestRightSingly(t *testing.T) {
	for _, c := range []struct {
		p    part.Part
		want bool
	}{
		{part.Part{}, true},
		{part.Part{State: part.Ready}, true},
		{part.Part{State: part.Refused}, true},
		{part.Part{State: part.Done}, false},
		{part.Part{State: -1}, false},
		{part.Part{State: 4}, false},
		{part.Part{State: 4, Outcome: api.Commit}, false},
		{part.Part{Local: true}, false},
		{part.Part{State: part.Ready, Local: true}, true},
		{part.Part{State: part.Refused, Local: true}, false},
		{part.Part{State: part.Done, Local: true, Outcome: api.Commit}, true},
		{part.Part{State: part.Done, Local: true, Outcome: api.Abort}, true},
		{part.Part{State: part.Done, Local: true}, false},
		{part.Part{Outcome: api.Commit}, false},
		{part.Part{Outcome: api.Abort}, false},
		{part.Part{State: part.Ready, Outcome: api.Commit}, false},
		{part.Part{State: part.Ready, Local: true, Outcome: api.Abort}, false},
		{part.Part{State: part.Refused, Outcome: api.Abort}, false},
		{part.Part{State: part.Done, Outcome: api.Commit}, true},
		{part.Part{State: part.Done, Outcome: api.Abort}, true},
		{part.Part{State: part.Done, Outcome: 3}, false},
		{part.Part{State: part.Done, Outcome: -1}, false},
		{part.Part{Outcome: -1}, false},
		{part.Part{Outcome: 3}, false},
	} {
		if is := right(t, c.p); is != c.want {
			t.Errorf("Right of %s: %t", shownPart(c.p), is)
		}
	}
}

// P9.1 to P9.5, on parts that are not valid

func TestPartsThatAreNotValid(t *testing.T) {
	var l []part.Part
	for _, s := range allShapes() {
		if !slices.Contains(validShapes(), s) {
			l = append(l, s.with(nil), s.with(deltas{of(1, 5), of(2, -3)}), s.with(many(50)), s.with(deltas{of(64, 1)}))
		}
	}
	for _, adds := range wrongAdds() {
		for _, s := range validShapes() {
			l = append(l, s.with(adds))
		}
	}
	for _, p := range l {
		if right(t, p) {
			t.Errorf("%s: Right", shownPart(p))
		}
		effectIs(t, p)
		for _, s := range allSteps() {
			s.fails(t, p, api.ErrArg)
		}
	}
}

// P9.2 to P9.5, on parts that are valid: what each call does to each shape

// does is what a call does: an error, or the shape that the part gets and whether it changes by its Adds or by their compensation.
type does struct {
	e          api.Errno
	to         shape
	adds, back bool
}

func (d does) answer(p part.Part, back deltas) answer {
	if d.e != api.OK {
		return answer{p, nil, d.e}
	}
	want := answer{Part: d.to.with(p.Adds)}
	if d.adds {
		want.changes = p.Adds
	}
	if d.back {
		want.changes = back
	}
	return want
}

func TestEachCallOnEachShape(t *testing.T) {
	over, have := does{e: api.ErrOver}, does{e: api.ErrHave}
	to := func(s shape) does { return does{to: s} }
	apply := func(s shape) does { return does{to: s, adds: true} }
	undo := func(s shape) does { return does{to: s, back: true} }
	for _, c := range []struct {
		of                            shape
		yes, no, local, commit, abort does
		effectHasAdds, effectHasBack  bool
	}{
		{running, to(ready), to(refused), over, over, to(aborted), false, false},
		{ready, over, over, apply(readyLocal), apply(committed), to(aborted), false, false},
		{readyLocal, over, over, have, to(committedHere), undo(abortedHere), true, false},
		{refused, over, over, over, over, to(aborted), false, false},
		{committed, over, over, over, to(committed), over, true, false},
		{committedHere, over, over, over, to(committedHere), over, true, false},
		{aborted, over, over, over, over, to(aborted), false, false},
		{abortedHere, over, over, over, over, to(abortedHere), true, true},
	} {
		for _, g := range goodAdds() {
			p := c.of.with(g.adds)
			vote(true).is(t, p, c.yes.answer(p, g.back))
			vote(false).is(t, p, c.no.answer(p, g.back))
			local().is(t, p, c.local.answer(p, g.back))
			decide(api.Commit).is(t, p, c.commit.answer(p, g.back))
			decide(api.Abort).is(t, p, c.abort.answer(p, g.back))
			var want deltas
			if c.effectHasAdds {
				want = append(want, g.adds...)
			}
			if c.effectHasBack {
				want = append(want, g.back...)
			}
			effectIs(t, p, want...)
		}
	}
}

// P9.2

func TestAdd(t *testing.T) {
	for _, d := range []api.Delta{of(0, 0), of(0, 1), of(63, -1), of(63, greatest), of(5, least), of(1, 5)} {
		for _, g := range goodAdds() {
			p := running.with(g.adds)
			if len(g.adds) == 50 {
				add(d).fails(t, p, api.ErrFull)
			} else {
				add(d).is(t, p, answer{running.with(append(slices.Clone(g.adds), d)), nil, api.OK})
			}
			for _, s := range validShapes() {
				if s != running {
					add(d).fails(t, s.with(g.adds), api.ErrOver)
				}
			}
		}
	}
}

func TestAddOfEachKey(t *testing.T) {
	for key := range 256 {
		d, p := of(uint8(key), 7), running.with(deltas{of(1, 5)})
		if key < 64 {
			add(d).is(t, p, answer{running.with(deltas{of(1, 5), d}), nil, api.OK})
		} else {
			add(d).fails(t, p, api.ErrArg)
		}
	}
}

// TestAddUntilFull: the fiftieth is added, and the one behind it is not.
func TestAddUntilFull(t *testing.T) {
	var p part.Part
	for i, d := range many(50) {
		p = add(d).is(t, p, answer{running.with(many(50)[:i+1]), nil, api.OK}).Part
	}
	add(of(1, 1)).fails(t, p, api.ErrFull)
	add(of(0, 0)).fails(t, p, api.ErrFull)
	vote(true).is(t, p, answer{ready.with(many(50)), nil, api.OK})
}

// TestAddTwiceToOne: two parts that were made from one, which has room, are apart.
func TestAddTwiceToOne(t *testing.T) {
	var p part.Part
	for n := range 49 {
		p, _ = part.Add(p, of(1, int64(n)))
		a, _ := part.Add(p, of(2, 20))
		b, _ := part.Add(p, of(3, 30))
		if len(a.Adds) != n+2 || a.Adds[n+1] != of(2, 20) || len(b.Adds) != n+2 || b.Adds[n+1] != of(3, 30) {
			t.Fatalf("two Adds to a part of %d: %s and %s", n+1, shown(a.Adds), shown(b.Adds))
		}
	}
}

func TestVoteTwice(t *testing.T) {
	for _, g := range goodAdds() {
		yes := vote(true).is(t, running.with(g.adds), answer{ready.with(g.adds), nil, api.OK}).Part
		no := vote(false).is(t, running.with(g.adds), answer{refused.with(g.adds), nil, api.OK}).Part
		for _, p := range []part.Part{yes, no} {
			vote(true).fails(t, p, api.ErrOver)
			vote(false).fails(t, p, api.ErrOver)
		}
	}
}

// P9.3

func TestLocalTwice(t *testing.T) {
	for _, g := range goodAdds() {
		p := local().is(t, ready.with(g.adds), answer{readyLocal.with(g.adds), g.adds, api.OK}).Part
		local().fails(t, p, api.ErrHave)
		for _, outcome := range []int{api.Commit, api.Abort} {
			local().fails(t, decide(outcome).on(t, p).Part, api.ErrOver)
		}
	}
}

// P9.4

func TestDecideTwice(t *testing.T) {
	for _, s := range []shape{running, ready, readyLocal, refused} {
		for _, g := range goodAdds() {
			for _, outcome := range []int{api.Commit, api.Abort} {
				first := decide(outcome).on(t, s.with(g.adds))
				if first.e != api.OK {
					continue
				}
				other := api.Commit + api.Abort - outcome
				decide(outcome).is(t, first.Part, answer{first.Part, nil, api.OK})
				decide(other).fails(t, first.Part, api.ErrOver)
				decide(outcome).is(t, first.Part, answer{first.Part, nil, api.OK})
			}
		}
	}
}

func TestDecideNoOutcome(t *testing.T) {
	for _, s := range validShapes() {
		for _, g := range goodAdds() {
			for _, outcome := range []int{math.MinInt, -2, -1, api.Open, 3, 4, 256, 257, 258, math.MaxInt} {
				decide(outcome).fails(t, s.with(g.adds), api.ErrArg)
			}
		}
	}
}

// R2: which error, where several apply

func TestFirstError(t *testing.T) {
	bad := of(64, 1)
	full := many(50)
	for _, s := range validShapes() {
		add(bad).fails(t, s.with(nil), api.ErrArg)
		add(bad).fails(t, s.with(full), api.ErrArg)
		if s != running {
			add(of(1, 1)).fails(t, s.with(full), api.ErrOver)
		}
		decide(api.Open).fails(t, s.with(full), api.ErrArg)
	}
	local().fails(t, committedHere.with(full), api.ErrOver)
	local().fails(t, abortedHere.with(full), api.ErrOver)

	tooMany := many(51)
	add(of(1, 1)).fails(t, running.with(tooMany), api.ErrArg)
	add(of(1, 1)).fails(t, ready.with(tooMany), api.ErrArg)
	vote(true).fails(t, ready.with(tooMany), api.ErrArg)
	local().fails(t, running.with(tooMany), api.ErrArg)
	local().fails(t, readyLocal.with(tooMany), api.ErrArg)
	decide(api.Commit).fails(t, running.with(tooMany), api.ErrArg)
	decide(api.Commit).fails(t, aborted.with(tooMany), api.ErrArg)
	decide(api.Abort).fails(t, aborted.with(tooMany), api.ErrArg)
	decide(api.Commit).fails(t, shape{part.Done, false, api.Open}.with(nil), api.ErrArg)
	decide(api.Open).fails(t, shape{part.Done, false, api.Open}.with(nil), api.ErrArg)
	decide(3).fails(t, shape{part.Done, false, 3}.with(nil), api.ErrArg)
	local().fails(t, shape{part.Run, true, api.Open}.with(nil), api.ErrArg)
	local().fails(t, shape{part.Refused, true, api.Open}.with(nil), api.ErrArg)
}

// R6: what is returned outlives what was given

func TestResultsAreApart(t *testing.T) {
	adds := deltas{of(1, 5), of(2, -3)}
	want := slices.Clone(adds)
	p := part.Part{State: part.Ready, Adds: adds}
	here, changes, _ := part.Local(p)
	adds[0] = of(9, 9)
	if !same(here.Adds, want) || !same(changes, want) {
		t.Errorf("Local, its argument written to: %s, %s", shown(here.Adds), shown(changes))
	}
	changes[1] = of(8, 8)
	if !same(here.Adds, want) {
		t.Errorf("Local, its changes written to: %s", shown(here.Adds))
	}
	done, back, _ := part.Decide(here, api.Abort)
	here.Adds[0] = of(9, 9)
	if !same(done.Adds, want) || !same(back, deltas{of(2, 3), of(1, -5)}) {
		t.Errorf("Decide, its argument written to: %s, %s", shown(done.Adds), shown(back))
	}
	all := part.Effect(done)
	all[0] = of(7, 7)
	if all[3] != of(1, -5) || !same(done.Adds, want) {
		t.Errorf("Effect, written to: %s, of %s", shown(all), shown(done.Adds))
	}
}

// The chapter's example

func TestExample(t *testing.T) {
	d := of(1, 5)
	p := add(d).is(t, part.Part{}, answer{running.with(deltas{d}), nil, api.OK}).Part
	p = vote(true).is(t, p, answer{ready.with(deltas{d}), nil, api.OK}).Part
	p = local().is(t, p, answer{readyLocal.with(deltas{d}), deltas{d}, api.OK}).Part
	p = decide(api.Abort).is(t, p, answer{abortedHere.with(deltas{d}), deltas{of(1, -5)}, api.OK}).Part
	p = decide(api.Abort).is(t, p, answer{abortedHere.with(deltas{d}), nil, api.OK}).Part
	decide(api.Commit).fails(t, p, api.ErrOver)
}

// P9.6

// life is what became of a part by the calls so far.
type life struct {
	part.Part
	added   deltas // by the calls of Add that returned OK
	changes deltas // that all calls returned together
	calls   string
}

// after returns the life with a call more.
func (l life) after(t *testing.T, s step) life {
	t.Helper()
	got := s.on(t, l.Part)
	next := life{got.Part, l.added, slices.Concat(l.changes, got.changes), l.calls + s.name + "; "}
	if len(got.Adds) > len(l.Adds) {
		next.added = slices.Concat(l.added, got.Adds[len(l.Adds):])
	}
	return next
}

func sums(l deltas) [256]int64 {
	var n [256]int64
	for _, d := range l {
		n[d.Key] += d.By
	}
	return n
}

// holds checks P9.6 at a moment of a life, which came from the one before it.
func (l life) holds(t *testing.T, before life) {
	t.Helper()
	if !right(t, l.Part) {
		t.Errorf("%s: %s is not valid", l.calls, shownPart(l.Part))
	}
	if !same(l.Adds, l.added) {
		t.Errorf("%s: Adds %s, want %s", l.calls, shown(l.Adds), shown(l.added))
	}
	if all := effect(t, l.Part); !same(all, l.changes) {
		t.Errorf("%s: changes %s, Effect %s", l.calls, shown(l.changes), shown(all))
	}
	if before.State == part.Done && !samePart(l.Part, before.Part) {
		t.Errorf("%s: %s was decided, and is %s", l.calls, shownPart(before.Part), shownPart(l.Part))
	}
	if before.State == part.Done && len(l.changes) != len(before.changes) {
		t.Errorf("%s: there are changes behind the decision", l.calls)
	}
	if l.State == part.Done && l.Outcome == api.Abort && sums(l.changes) != sums(nil) {
		t.Errorf("%s: aborted, and changes are left: %s", l.calls, shown(l.changes))
	}
	if l.State == part.Done && l.Outcome == api.Commit && !same(l.changes, l.added) {
		t.Errorf("%s: committed, and %s became %s", l.calls, shown(l.added), shown(l.changes))
	}
}

// goOn takes every call behind every other, and returns in how many ways lives ended decided.
func (l life) goOn(t *testing.T, steps []step, left int) int {
	t.Helper()
	ends := 0
	if l.State == part.Done {
		ends = 1
	}
	if left == 0 || t.Failed() {
		return ends
	}
	for _, s := range steps {
		next := l.after(t, s)
		next.holds(t, l)
		ends += next.goOn(t, steps, left-1)
	}
	return ends
}

func TestOnceInEveryOrder(t *testing.T) {
	steps := []step{
		add(of(1, 5)), add(of(2, least)), vote(true), vote(false), local(), decide(api.Commit), decide(api.Abort),
	}
	if ends := (life{}).goOn(t, steps, 6); ends == 0 {
		t.Error("no part was ever decided")
	}
}

// TestOnceWithWrongCalls: calls that fail, and those of wrong arguments, change nothing in between.
func TestOnceWithWrongCalls(t *testing.T) {
	steps := []step{
		add(of(63, -1)), add(of(64, 1)), vote(true), vote(false), local(), decide(api.Open), decide(3), decide(api.Commit), decide(api.Abort),
	}
	if ends := (life{}).goOn(t, steps, 5); ends == 0 {
		t.Error("no part was ever decided")
	}
}

// TestOnceWithManyAdds: as in every order, behind Adds of all edges, also of fifty.
func TestOnceWithManyAdds(t *testing.T) {
	steps := []step{add(of(1, 1)), vote(true), vote(false), local(), decide(api.Commit), decide(api.Abort)}
	for _, g := range goodAdds() {
		l := life{Part: running.with(g.adds), added: g.adds, calls: fmt.Sprintf("%d Adds; ", len(g.adds))}
		l.holds(t, l)
		if ends := l.goOn(t, steps, 4); ends == 0 {
			t.Error("no part was ever decided")
		}
	}
}

// TestGains: from each valid part on, the changes of a call are what the Effect has more behind it.
func TestGains(t *testing.T) {
	for _, s := range validShapes() {
		for _, g := range goodAdds() {
			p := s.with(g.adds)
			for _, c := range allSteps() {
				got := c.on(t, p)
				together := slices.Concat(effect(t, p), got.changes)
				if all := effect(t, got.Part); !same(all, together) {
					t.Errorf("%s: %s: Effect %s, want %s", shownPart(p), c.name, shown(all), shown(together))
				}
			}
		}
	}
}
