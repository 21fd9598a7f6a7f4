package chair_test

import (
	"math"
	"slices"
	"testing"

	"waystation/api"
	"waystation/chair"
)

// P15.2

func TestDeal(t *testing.T) {
	w := after(t, begin(0, 1, 0, 5, 0), begin(999, 1, 0, 5, 0), begin(500, 1, 0, 5, 0))
	for _, tx := range append([]int{-1, -2, 1, 2, 499, 501, 998, 1000, 1001, math.MinInt + 500, math.MaxInt - 500}, strange()...) {
		if tx == 0 || tx == 500 || tx == 999 {
			continue
		}
		if d, is := w.c.Deal(tx); is || d != (chair.Deal{}) {
			t.Errorf("Deal(%d) = %+v, %t", tx, d, is)
		}
	}
	for _, tx := range []int{0, 500, 999} {
		w.outcome(tx, open)
	}
}

// TestOpen: of none, one and many deals, begun in any order.
func TestOpen(t *testing.T) {
	w := newTwin(t)
	if l := w.c.Open(); len(l) != 0 {
		t.Errorf("Open() of a new chair: %v", l)
	}
	w.works(begin(700, 1, 0, 5, 0))
	if l := w.c.Open(); !slices.Equal(l, []int{700}) {
		t.Errorf("Open() of one deal: %v", l)
	}
	w.works(begin(3, 1, 0, 5, 0), begin(999, 1, 0, 5, 0), begin(0, 1, 0, 5, 0), begin(30, 1, 0, 5, 0))
	for range 20 { // a map may be gone through in another order each time
		if l := w.c.Open(); !slices.Equal(l, []int{0, 3, 30, 700, 999}) {
			t.Fatalf("Open() = %v", l)
		}
	}
	w.decides(vote(30, 0, 1, yes, 0))
	w.decides(vote(0, 0, 1, no, 0))
	w.works(begin(4, 1, 0, 6, 0))
	if l := w.c.Open(); !slices.Equal(l, []int{3, 4, 700, 999}) {
		t.Errorf("Open() with some decided: %v", l)
	}
	w.gives(tick(5), 3, api.OK)
	if l := w.c.Open(); !slices.Equal(l, []int{4}) {
		t.Errorf("Open() behind a Tick: %v", l)
	}
	w.decides(tick(6))
	if l := w.c.Open(); len(l) != 0 {
		t.Errorf("Open() with all decided: %v", l)
	}
}

// TestOpenInEveryOrder: five deals that begin in all orders.
func TestOpenInEveryOrder(t *testing.T) {
	everyOrder([]int{1, 2, 10, 100, 20}, func(l []int) {
		c := chair.New()
		for i, tx := range l {
			c.Do(begin(tx, 1, 0, 5, 0))
			want := slices.Sorted(slices.Values(l[:i+1]))
			if got := c.Open(); !slices.Equal(got, want) {
				t.Fatalf("begun in the order %v: Open() = %v", l[:i+1], got)
			}
		}
	})
}

// everyOrder gives the elements in all orders.
func everyOrder[T any](l []T, give func([]T)) {
	var from func(int)
	from = func(at int) {
		if at == len(l) {
			give(slices.Clone(l))
		}
		for i := at; i < len(l); i++ {
			l[at], l[i] = l[i], l[at]
			from(at + 1)
			l[at], l[i] = l[i], l[at]
		}
	}
	from(0)
}

// P15.3

// TestLog: the fields that a kind does not use are kept, and calls that return an error leave no record.
func TestLog(t *testing.T) {
	c := chair.New()
	var want []record
	for _, x := range []struct {
		r record
		e api.Errno
	}{
		{record{Kind: 2, Tx: 1, Who: 1, Epoch: 1, Vote: 1, Now: 0}, api.ErrNone},
		{record{Kind: 1, Tx: 1, Who: 6, Epoch: -7, Vote: 77, Now: 10, Span: 5, Cap: 1}, api.OK},
		{record{Kind: 1, Tx: 1, Who: 6, Epoch: -7, Vote: 77, Now: 10, Span: 5, Cap: 1}, api.ErrHave},
		{record{Kind: 1, Tx: 2, Now: 10, Span: 5, Cap: 1}, api.ErrArg},
		{record{Kind: 1, Tx: 2, Who: 1, Now: lastTick, Span: 5, Cap: 1}, api.ErrBig},
		{record{Kind: 1, Tx: 999, Who: 255, Epoch: math.MinInt, Vote: math.MaxInt, Now: 10, Span: 6, Cap: 0}, api.OK},
		{record{Kind: 4, Tx: 999, Who: 200, Epoch: -1, Vote: 9, Now: math.MinInt64, Span: math.MaxInt64, Cap: math.MinInt}, api.OK},
		{record{Kind: 4, Tx: 1000, Now: 10}, api.ErrArg},
		{record{Kind: 2, Tx: 1, Who: 1, Epoch: 3, Vote: 1, Now: 14, Span: math.MinInt64, Cap: -5}, api.OK},
		{record{Kind: 2, Tx: 1, Who: 1, Epoch: 3, Vote: 1, Now: -14, Span: 3, Cap: 4}, api.OK},
		{record{Kind: 2, Tx: 1, Who: 1, Epoch: 3, Vote: 2, Now: 14}, api.ErrHave},
		{record{Kind: 2, Tx: 1, Who: 2, Epoch: 3, Vote: 1, Now: 15}, api.ErrLate},
		{record{Kind: 3, Tx: 1, Who: 2, Epoch: 4, Vote: 55, Now: 14, Span: 8, Cap: 9}, api.OK},
		{record{Kind: 3, Tx: 1, Who: 2, Epoch: 5, Now: 14}, api.ErrCap},
		{record{Kind: 2, Tx: 1, Who: 2, Epoch: 3, Vote: 1, Now: 14}, api.ErrOld},
		{record{Kind: 2, Tx: 1, Who: 2, Epoch: 4, Vote: 1, Now: 19, Span: 1, Cap: 1}, api.OK},
		{record{Kind: 2, Tx: 1, Who: 2, Epoch: 4, Vote: 1, Now: 19, Span: 1, Cap: 1}, api.ErrOver},
		{record{Kind: 4, Now: 16}, api.OK},
		{record{Kind: 4, Now: 16}, api.OK},
		{record{Kind: 0, Tx: 1}, api.ErrArg},
	} {
		if _, e := c.Do(x.r); e != x.e {
			t.Errorf("%+v: %d, want %d", x.r, e, x.e)
		}
		if x.e == api.OK {
			want = append(want, x.r)
		}
		if l := c.Log(); !slices.Equal(l, want) {
			t.Errorf("behind %+v: Log() = %+v, want %+v", x.r, l, want)
		}
	}
	if x, e := chair.Replay(want); e != api.OK || !slices.Equal(x.Log(), want) {
		t.Errorf("Replay: %d", e)
	}
}

func TestReplayOfNone(t *testing.T) {
	for _, l := range [][]record{nil, {}} {
		c, e := chair.Replay(l)
		if c == nil || e != api.OK {
			t.Fatalf("Replay of no record: %v, %d", c, e)
		}
		w := &twin{t: t, c: c, m: newPlain()}
		w.seen()
		w.works(begin(1, 1, 0, 5, 0))
		w.decides(vote(1, 0, 1, yes, 4))
	}
}

// long is a chair's log in which there is every kind, of several transactions at a time, and every outcome.
func long() []record {
	return []record{
		tick(7), begin(1, 6, 10, 5, 2), begin(2, 255, 3, 20, 0), vote(1, 1, 3, yes, 14), begin(900, 1, 0, 9, 0), extend(1, 2, 4, 14), tick(9),
		vote(1, 2, 4, yes, 19), {Kind: 4, Tx: 5, Who: 9, Cap: 7}, vote(2, 7, 1, yes, 22), begin(0, 3, lastTick-9, 4, 1), vote(2, 7, 1, yes, -4),
		vote(2, 0, lastEpoch, no, 22), extend(0, 1, 6, 1), begin(3, 1, 0, 1, 0), begin(4, 128, 0, 2, 9), tick(1), begin(5, 9, 0, 3, 100), vote(5, 3, 2, yes, 2),
	}
}

// TestReplayOfEachBeginning: it is a log, too; the chair goes on as the one of which it is the log.
func TestReplayOfEachBeginning(t *testing.T) {
	for n := range len(long()) + 1 {
		w := after(t, long()[:n]...)
		c, e := chair.Replay(w.c.Log())
		if e != api.OK || len(c.Log()) != n {
			t.Fatalf("Replay of %d records: %d", n, e)
		}
		w.c = c
		w.seen()
		w.do(long()[n:]...)
		w.seen()
	}
}

// TestReplayWithAnError: at each place, whatever the error is.
func TestReplayWithAnError(t *testing.T) {
	for i := range len(long()) + 1 {
		for _, r := range []record{
			{Kind: 0, Tx: 1}, {Kind: 5, Tx: 1}, {Kind: 4, Tx: -1}, {Kind: 4, Tx: 1000}, begin(-1, 1, 0, 5, 0), begin(1000, 1, 0, 5, 0),
			begin(77, 0, 0, 5, 0), begin(77, 1, 0, 0, 0), begin(77, 1, lastTick, 5, 0), vote(77, 0, 1, yes, 0), extend(77, 0, 1, 0),
		} {
			if c, e := chair.Replay(slices.Insert(long(), i, r)); c != nil || e != api.ErrForm {
				t.Errorf("Replay with %+v ahead of record %d: %v, %d", r, i, c, e)
			}
		}
	}
	start := begin(1, 6, 10, 5, 0)
	for _, l := range [][]record{
		{start, start},
		{start, vote(1, 1, 1, yes, 15)},
		{start, vote(1, 1, 1, none, 14)},
		{start, vote(1, 0, 1, yes, 14)},
		{start, vote(1, 1, 3, yes, 14), vote(1, 1, 2, yes, 14)},
		{start, vote(1, 1, 3, yes, 14), vote(1, 1, 3, no, 14)},
		{start, vote(1, 1, 3, no, 14), vote(1, 2, 3, no, 14)},
		{start, extend(1, 1, 1, 14)},
		{start, extend(1, 1, 1, 15)},
		{start, tick(15), vote(1, 1, 3, yes, 14)},
		{start, tick(15), extend(1, 1, 3, 14)},
	} {
		if c, e := chair.Replay(l[:len(l)-1]); c == nil || e != api.OK {
			t.Errorf("Replay of %+v: %d", l[:len(l)-1], e)
		}
		if c, e := chair.Replay(l); c != nil || e != api.ErrForm {
			t.Errorf("Replay of %+v: %d", l, e)
		}
	}
}

// TestReplayWithoutOne: without any of its records, a log is one or is none, as the plain one tells.
func TestReplayWithoutOne(t *testing.T) {
	for i := range long() {
		l := slices.Delete(long(), i, i+1)
		m, want := newPlain(), api.OK
		for _, r := range l {
			if _, e := m.do(r); e != api.OK {
				want = api.ErrForm
			}
		}
		c, e := chair.Replay(l)
		if e != want || (c == nil) != (want != api.OK) {
			t.Errorf("Replay without record %d: %v, %d, want %d", i, c, e, want)
		} else if want == api.OK {
			seenAs(t, c, m, l)
		}
	}
}

// R6: memory

func TestListsOfOpenAreApart(t *testing.T) {
	w := newTwin(t)
	for _, r := range long() {
		w.do(r)
		a, b := w.c.Open(), w.c.Open()
		for i := range a[:cap(a)] {
			a[:cap(a)][i] = 99
		}
		if !slices.Equal(b, w.m.open()) {
			t.Fatalf("two answers of Open share memory: %v", b)
		}
		w.seen()
	}
}

// TestListsStayWhileTheChairGoesOn: what was returned is not changed by later calls.
func TestListsStayWhileTheChairGoesOn(t *testing.T) {
	w := newTwin(t)
	var opens, wantOpens [][]int
	var logs [][]record
	for _, r := range long() {
		w.do(r)
		opens, wantOpens = append(opens, w.c.Open()), append(wantOpens, w.m.open())
		logs = append(logs, w.c.Log())
	}
	for i := range long() {
		if !slices.Equal(opens[i], wantOpens[i]) || !slices.Equal(logs[i], long()[:i+1]) {
			t.Errorf("the lists behind record %d are now %v and %+v", i, opens[i], logs[i])
		}
	}
}

func TestLogsAreApart(t *testing.T) {
	w := newTwin(t)
	for _, r := range long() {
		w.do(r)
		a, b := w.c.Log(), w.c.Log()
		wrecked(a)
		if !slices.Equal(b, w.m.log) {
			t.Fatalf("two answers of Log share memory: %+v", b)
		}
		wrecked(b)
		w.seen()
	}
	c, e := chair.Replay(w.c.Log())
	if e != api.OK {
		t.Fatalf("Replay: %d", e)
	}
	seenAs(t, c, w.m, w.calls)
}

// wrecked writes to all that a slice reaches, also behind its end.
func wrecked(l []record) {
	l = l[:cap(l)]
	for i := range l {
		l[i] = record{Kind: 99}
	}
}

// TestReplayKeepsNothing: neither are the given records changed, nor does the chair change with them.
func TestReplayKeepsNothing(t *testing.T) {
	given := append(make([]record, 0, 100), long()...)
	a, _ := chair.Replay(given)
	b, _ := chair.Replay(given)
	w := after(t, long()...)
	more := []record{begin(50, 1, 0, 5, 0), extend(5, 0, 7, 2), vote(5, 0, 7, yes, 5), tick(1000)}
	for _, r := range more {
		a.Do(r)
	}
	if !slices.Equal(given, long()) || given[:len(given)+1][len(given)] != (record{}) {
		t.Errorf("what was given is now %+v", given[:len(given)+1])
	}
	wrecked(given)
	seenAs(t, b, w.m, w.calls)
	w.do(more...)
	seenAs(t, a, w.m, w.calls)
}

// TestDealsAreApart: a deal that was returned is a value, which neither changes the chair nor changes with it.
func TestDealsAreApart(t *testing.T) {
	for _, x := range ways()[1:] {
		w := after(t, x.calls...)
		d, _ := w.c.Deal(1)
		kept := d
		d.Tally.Who[0], d.Tally.Votes[1], d.Tally.Epochs[2], d.Terms.Deadline, d.Outcome = true, no, 77, 1000, 1-d.Outcome
		w.seen()
		w.do(extend(1, 1, 9, 12), vote(1, 2, 9, no, 12), tick(20))
		w.seen()
		if kept != x.is {
			t.Errorf("%s: the deal is now %+v", x.name, kept)
		}
	}
}
