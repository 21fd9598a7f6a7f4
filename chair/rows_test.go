package chair_test

import (
	"fmt"
	"math/rand"
	"slices"
	"testing"

	"waystation/api"
	"waystation/chair"
	"waystation/terms"
)

// All that two transactions can come to by some calls: one of two mobiles, which may be put off twice, and one of a single mobile, which may not.

func walkCalls() []record {
	l := []record{begin(0, 129, 0, 2, 2), begin(999, 8, 1, 1, 0), begin(0, 0, 0, 2, 2), begin(999, 8, lastTick, 1, 0)}
	for _, now := range []int64{-1, 1, 2, 3, 4, 6} {
		l = append(l, tick(now))
	}
	for _, now := range []int64{1, 2, 3, 5} {
		for epoch := 1; epoch <= 2; epoch++ {
			l = append(l, extend(0, 0, epoch, now), vote(0, 0, epoch, yes, now), vote(0, 7, 1, yes, now), extend(0, 7, 1, now))
		}
		l = append(l, vote(0, 0, 1, no, now), vote(0, 7, 1, no, now), vote(999, 3, 1, yes, now), vote(999, 3, 1, no, now), extend(999, 3, 1, now))
	}
	return append(l, vote(0, 1, 1, yes, 1), vote(999, 3, 0, yes, 1), vote(999, 3, 1, 3, 1), extend(0, 2, 1, 1), record{Kind: 5}, vote(1, 0, 1, yes, 1))
}

// place is a state that the plain chair can come to, and the shortest way there.
type place struct {
	way []record
	m   *plain
}

func places() []place {
	l := []place{{nil, newPlain()}}
	known := map[[2]plainDeal]bool{{}: true}
	for i := 0; i < len(l); i++ {
		for _, r := range walkCalls() {
			m := l[i].m.clone()
			if _, e := m.do(r); e != api.OK {
				continue
			}
			if state := [2]plainDeal{m.deals[0], m.deals[999]}; !known[state] {
				known[state] = true
				l = append(l, place{append(slices.Clone(l[i].way), r), m})
			}
		}
	}
	return l
}

// same is seen, of what the calls of the walk are about.
func (w *twin) same() {
	w.t.Helper()
	for _, tx := range []int{0, 1, 999, 1000} {
		seenDeal(w.t, w.c, w.m, w.calls, tx)
	}
	if l := w.c.Open(); !slices.Equal(l, openOf(w.m, 0, 999)) {
		w.t.Fatalf("%+v: Open() = %v", w.calls, l)
	}
	if l := w.c.Log(); !slices.Equal(l, w.m.log) {
		w.t.Fatalf("%+v: Log() = %+v, want %+v", w.calls, l, w.m.log)
	}
}

func openOf(m *plain, txs ...int) []int {
	return slices.DeleteFunc(txs, func(tx int) bool {
		d, is := m.deals[tx]
		return !is || d.outcome != open
	})
}

// P15.1 to P15.3, in all states

// TestEachCallInAllStates: what it returns, and what there is to see behind it.
func TestEachCallInAllStates(t *testing.T) {
	all := places()
	if len(all) < 300 {
		t.Errorf("%d states", len(all))
	}
	for _, at := range all {
		for _, r := range walkCalls() {
			w := after(t, at.way...)
			w.step(r)
			w.same()
		}
	}
}

// TestErrorsChangeNothing: with all calls that return an error put in at every step, the chair goes on as without them.
func TestErrorsChangeNothing(t *testing.T) {
	for _, at := range places() {
		w := newTwin(t)
		for _, r := range at.way {
			w.wrongCalls()
			w.do(r)
		}
		w.wrongCalls()
		w.same()
	}
}

// wrongCalls does the calls that return an error now.
func (w *twin) wrongCalls() {
	w.t.Helper()
	for _, r := range walkCalls() {
		if _, e := w.m.clone().do(r); e != api.OK {
			w.is(r, 0, e)
		}
	}
	w.calls = slices.Clone(w.m.log) // what went wrong would be most of what a failure tells
}

// TestReplayInAllStates: the chair of the log tells the same, and goes on in the same way.
func TestReplayInAllStates(t *testing.T) {
	for _, at := range places() {
		w := after(t, at.way...)
		c, e := chair.Replay(w.c.Log())
		if c == nil || e != api.OK {
			t.Fatalf("%+v: Replay of the Log: %v, %d", w.calls, c, e)
		}
		goOnAlike(t, w.c, c)
		w.c, _ = chair.Replay(w.m.log)
		w.same()
	}
}

// goOnAlike does the same calls on two chairs, and checks that both return the same.
func goOnAlike(t *testing.T, a, b *chair.Chair) {
	t.Helper()
	for _, r := range walkCalls() {
		n, e := a.Do(r)
		if gotN, gotE := b.Do(r); gotN != n || gotE != e {
			t.Fatalf("%+v: %+v: %d, %d, and replayed %d, %d", a.Log(), r, n, e, gotN, gotE)
		}
	}
	if !slices.Equal(a.Log(), b.Log()) || !slices.Equal(a.Open(), b.Open()) {
		t.Fatalf("%+v: replayed %+v, open %v and %v", a.Log(), b.Log(), a.Open(), b.Open())
	}
}

// P15.4

// step does a call, and checks that no outcome changes but an open one, how many do, and that nothing else of a decided deal does.
func (w *twin) step(r record) {
	w.t.Helper()
	ahead := w.all()
	n, e := w.m.do(r)
	w.is(r, n, e)
	decided := 0
	for tx, now := range w.all() {
		was := ahead[tx]
		switch {
		case was.Outcome != open && now != was:
			w.t.Fatalf("%+v: the deal of %d was %+v, and is %+v", w.calls, tx, was, now)
		case was.Outcome != now.Outcome:
			decided++
		}
	}
	if decided != n {
		w.t.Fatalf("%+v: %d were decided, and Do told %d", w.calls, decided, n)
	}
}

// all are the deals of the transactions that the rows of calls are about; a zero Deal where there is none.
func (w *twin) all() map[int]chair.Deal {
	l := map[int]chair.Deal{}
	for _, tx := range []int{0, 1, 2, 3, 4, 5, 6, 7, 8, 9, 999} {
		l[tx], _ = w.c.Deal(tx)
	}
	return l
}

// P15.5

// history is what votes came in time, as the calls and the deadlines tell it that there were.
type history map[int][8]int

// note takes a call into it, ahead of which there was such a deal.
func (h history) note(r record, e api.Errno, ahead chair.Deal) {
	if r.Kind == 2 && e == api.OK && r.Now < ahead.Terms.Deadline {
		votes := h[r.Tx]
		votes[r.Who] = r.Vote
		h[r.Tx] = votes
	}
}

// proves reports whether a deal may have its outcome: a Commit asks for a Yes in time of each of its mobiles, and for nothing of others.
func (h history) proves(tx int, d chair.Deal) bool {
	var all [8]int
	for id, in := range d.Tally.Who {
		if in {
			all[id] = yes
		}
	}
	votes := h[tx]
	switch {
	case votes == all:
		return d.Outcome == commit
	case slices.Contains(votes[:], no):
		return d.Outcome == abort
	}
	return d.Outcome != commit
}

// TestCommitHasAllYesInTime: in all states, on the shortest way there.
func TestCommitHasAllYesInTime(t *testing.T) {
	found := map[int]int{}
	for _, at := range places() {
		c, h := chair.New(), history{}
		for _, r := range at.way {
			ahead, _ := c.Deal(r.Tx)
			_, e := c.Do(r)
			h.note(r, e, ahead)
		}
		for _, tx := range []int{0, 999} {
			if d, is := c.Deal(tx); is {
				found[d.Outcome]++
				if !h.proves(tx, d) {
					t.Fatalf("%+v: %+v, with the votes %v", at.way, d, h[tx])
				}
			}
		}
	}
	for _, outcome := range []int{open, commit, abort} {
		if found[outcome] < 50 {
			t.Errorf("the outcome %d was found %d times", outcome, found[outcome])
		}
	}
}

// P15.6

// ends checks a Tick at the greatest Last of all deals, or behind it.
func ends(t *testing.T, w *twin) {
	t.Helper()
	var last int64
	for tx := range 1000 {
		if d, is := w.c.Deal(tx); is {
			last = max(last, terms.Last(d.Terms))
		}
	}
	for _, behind := range []int64{0, 1, lastTick} {
		c, e := chair.Replay(w.c.Log())
		if e != api.OK {
			t.Fatalf("%+v: Replay of the Log: %d", w.calls, e)
		}
		n, e := c.Do(tick(last + behind))
		if n != len(w.c.Open()) || e != api.OK || len(c.Open()) != 0 {
			t.Fatalf("%+v: a Tick %d behind the last deadline: %d, %d, and there are open %v", w.calls, behind, n, e, c.Open())
		}
	}
}

func TestEndsFromAllStates(t *testing.T) {
	for _, at := range places() {
		ends(t, after(t, at.way...))
	}
}

// TestEndsNotAhead: the deals that were put off as often as they may are open until their Last.
func TestEndsNotAhead(t *testing.T) {
	w := after(t, begin(1, 1, 10, 5, 3), begin(2, 1, 10, 7, 2), begin(3, 1, 30, 1, 0), begin(4, 1, 0, 40, 0), begin(5, 1, 0, 10, 3))
	for _, r := range []record{extend(1, 0, 1, 14), extend(1, 0, 1, 19), extend(1, 0, 1, 24), extend(2, 0, 1, 16), extend(2, 0, 1, 23), extend(5, 0, 1, 9)} {
		w.works(r)
	}
	ends(t, w)
	for _, x := range []struct {
		now  int64
		n    int
		open []int
	}{{19, 0, []int{1, 2, 3, 4, 5}}, {29, 1, []int{1, 2, 3, 4}}, {30, 1, []int{2, 3, 4}}, {39, 2, []int{4}}, {40, 1, nil}} {
		w.gives(tick(x.now), x.n, api.OK)
		if l := w.c.Open(); !slices.Equal(l, x.open) {
			t.Errorf("Open() behind a Tick at %d: %v", x.now, l)
		}
	}
}

// TestEndsUnderCalls: however often mobiles are heard and deadlines put off, nothing is open at the Last that there was at the beginning.
func TestEndsUnderCalls(t *testing.T) {
	for most := range 5 {
		w := after(t, begin(1, 6, 10, 5, most))
		d, _ := w.c.Deal(1)
		last := terms.Last(d.Terms)
		for now := int64(10); now < last; now++ {
			w.do(extend(1, 1, 1, now), vote(1, 1, 1, yes, now), extend(1, 2, 1, now), vote(1, 2, 1, no+1, now), tick(now))
		}
		w.outcome(1, open)
		w.decides(tick(last))
		w.outcome(1, abort)
	}
}

// Long runs of calls of all kinds, which are seldom wrong

// TestLongRuns: all of P15.1 to P15.6 at once, of ten transactions; the chair is rebuilt now and then.
func TestLongRuns(t *testing.T) {
	errs, outcomes := map[string]int{}, map[int]int{}
	for seed := range int64(300) {
		source := rand.New(rand.NewSource(seed))
		w, h := newTwin(t), history{}
		for step := range 400 {
			r := anyCall(source, int64(step/4))
			ahead, _ := w.c.Deal(r.Tx)
			_, e := w.m.clone().do(r)
			w.step(r)
			h.note(r, e, ahead)
			errs[fmt.Sprint(r.Kind, e)]++
			if step%40 == 0 {
				w.seen()
				ends(t, w)
				w.c, _ = chair.Replay(w.c.Log())
			}
		}
		for tx := range 1000 {
			if d, is := w.c.Deal(tx); is {
				outcomes[d.Outcome]++
				if !h.proves(tx, d) {
					t.Fatalf("%+v: %d: %+v, with the votes %v", w.calls, tx, d, h[tx])
				}
			}
		}
	}
	manyOf(t, errs, outcomes)
}

// manyOf checks that the runs came to what there is to come to.
func manyOf(t *testing.T, errs map[string]int, outcomes map[int]int) {
	t.Helper()
	kinds := map[int][]api.Errno{
		1: {api.OK, api.ErrArg, api.ErrHave, api.ErrBig},
		2: {api.OK, api.ErrArg, api.ErrNone, api.ErrOver, api.ErrLate, api.ErrOld, api.ErrHave},
		3: {api.OK, api.ErrArg, api.ErrNone, api.ErrOver, api.ErrLate, api.ErrOld, api.ErrCap},
		4: {api.OK},
	}
	for kind, l := range kinds {
		for _, e := range l {
			if n := errs[fmt.Sprint(kind, e)]; n < 50 {
				t.Errorf("%d calls of the kind %d returned %d", n, kind, e)
			}
		}
	}
	for _, outcome := range []int{open, commit, abort} {
		if outcomes[outcome] < 50 {
			t.Errorf("%d deals ended as %d", outcomes[outcome], outcome)
		}
	}
}

// anyCall is a call about one of ten transactions, at a time about now.
func anyCall(source *rand.Rand, now int64) record {
	pick := func(l ...int) int { return l[source.Intn(len(l))] }
	r := record{Tx: source.Intn(10), Who: uint8(source.Intn(4)), Epoch: 1 + source.Intn(3), Now: now + int64(source.Intn(5)) - 2}
	switch source.Intn(12) {
	case 0, 1, 2:
		r.Kind, r.Who, r.Span, r.Cap = 1, uint8(source.Intn(16)), int64(pick(0, 4, 9, 20, 60, 200)), pick(0, 1, 2, 3, 100, 101)
		if source.Intn(20) == 0 {
			r.Now = lastTick
		}
	case 3, 4, 5, 6, 7, 8:
		r.Kind, r.Vote = 2, pick(yes, yes, yes, yes, yes, yes, yes, no, pick(no, none, 3))
	case 9, 10:
		r.Kind = 3
	default:
		r.Kind, r.Now = 4, now+int64(pick(-50, -5, -2, 0))
	}
	if source.Intn(30) == 0 {
		r.Epoch = pick(0, -1, lastEpoch, lastEpoch+1)
	}
	return r
}

// TestAnyOrderOfVotes: the votes of up to four mobiles in all orders, some of which come too late.
func TestAnyOrderOfVotes(t *testing.T) {
	for late := range 5 {
		for refused := range 5 {
			everyOrder([]int{0, 1, 2, 3}, func(l []int) {
				w := after(t, begin(1, 15, 10, 5, 0))
				want := commit
				for _, id := range l {
					r := vote(1, uint8(id), 1, yes, 14)
					if id == refused {
						r.Vote = no
					}
					if id == late {
						r.Now = 15
					}
					w.step(r)
				}
				w.step(tick(15))
				if late < 4 || refused < 4 {
					want = abort
				}
				w.outcome(1, want)
			})
		}
	}
}
