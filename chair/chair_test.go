package chair_test

import (
	"math"
	"math/bits"
	"slices"
	"testing"

	"waystation/api"
	"waystation/chair"
	"waystation/tally"
	"waystation/terms"
)

// way is calls that lead the transaction 1, which the mobiles 1 and 2 take part in, to a state.
type way struct {
	name  string
	calls []record
	is    chair.Deal
}

// ways are those to no deal, to open ones, and to all ends. The deadline is 15, or 20 where it was put off.
func ways() []way {
	start := begin(1, 6, 10, 5, 2)
	first, second := vote(1, 1, 3, yes, 11), vote(1, 2, 4, yes, 12)
	limits := terms.Terms{Deadline: 15, Span: 5, Cap: 2}
	later := terms.Terms{Deadline: 20, Span: 5, Used: 1, Cap: 2}
	return []way{
		{"none", nil, chair.Deal{}},
		{"new", []record{start}, chair.Deal{Tally: of(none, 0, none, 0), Terms: limits}},
		{"one vote", []record{start, first}, chair.Deal{Tally: of(yes, 3, none, 0), Terms: limits}},
		{"extended", []record{start, extend(1, 2, 5, 11)}, chair.Deal{Tally: of(none, 0, none, 5), Terms: later}},
		{"committed", []record{start, first, second}, chair.Deal{Tally: of(yes, 3, yes, 4), Terms: limits, Outcome: commit}},
		{"refused", []record{start, first, vote(1, 2, 4, no, 12)}, chair.Deal{Tally: of(yes, 3, no, 4), Terms: limits, Outcome: abort}},
		{"refused at once", []record{start, vote(1, 1, 3, no, 11)}, chair.Deal{Tally: of(no, 3, none, 0), Terms: limits, Outcome: abort}},
		{"over", []record{start, first, tick(15)}, chair.Deal{Tally: of(yes, 3, none, 0), Terms: limits, Outcome: abort}},
	}
}

// of is the tally of the mobiles 1 and 2.
func of(vote1, epoch1, vote2, epoch2 int) tally.Tally {
	var t tally.Tally
	t.Who[1], t.Votes[1], t.Epochs[1] = true, vote1, epoch1
	t.Who[2], t.Votes[2], t.Epochs[2] = true, vote2, epoch2
	return t
}

// wayTo is the one way of that name.
func wayTo(name string) []record {
	for _, x := range ways() {
		if x.name == name {
			return x.calls
		}
	}
	panic("no way to " + name)
}

func (w *twin) deal(tx int, want chair.Deal) {
	w.t.Helper()
	if d, is := w.c.Deal(tx); !is || d != want {
		w.t.Errorf("%+v: Deal(%d) = %+v, %t, want %+v", w.calls, tx, d, is, want)
	}
}

// The chapter's example

func TestExample(t *testing.T) {
	start := []record{begin(7, 6, 0, 10, 0), vote(7, 1, 1, yes, 0)}
	w := after(t, start...)
	w.outcome(7, open)
	w.decides(vote(7, 2, 1, yes, 9))
	w.outcome(7, commit)
	w = after(t, start...)
	w.decides(tick(10))
	w.outcome(7, abort)
}

func TestKinds(t *testing.T) {
	got := []int{chair.Begin, chair.Vote, chair.Extend, chair.Tick}
	if !slices.Equal(got, []int{1, 2, 3, 4}) {
		t.Errorf("the kinds: %v", got)
	}
}

// A new chair, and those that New did not create

func TestNew(t *testing.T) {
	w := newTwin(t)
	w.seen()
}

func TestNewChairsAreApart(t *testing.T) {
	a := after(t, wayTo("one vote")...)
	b := newTwin(t)
	b.seen()
	b.works(begin(1, 1, 0, 5, 0), begin(2, 1, 0, 9, 0))
	b.decides(tick(5))
	a.seen()
	a.decides(vote(1, 2, 1, yes, 0))
	b.seen()
}

// someTx are transactions in range and out of it.
func someTx() []int {
	return append([]int{-2, -1, 0, 1, 2, 500, 998, 999, 1000, 1001}, strange()...)
}

func TestChairsThatNewDidNotCreate(t *testing.T) {
	for name, c := range map[string]*chair.Chair{"nil": nil, "zero value": {}} {
		for range 2 {
			for kind := -1; kind <= 6; kind++ {
				for _, tx := range someTx() {
					r := record{Kind: kind, Tx: tx, Who: 1, Epoch: 1, Vote: yes, Now: 1, Span: 1}
					if n, e := c.Do(r); n != 0 || e != api.ErrNil {
						t.Errorf("%s: Do(%+v) = %d, %d", name, r, n, e)
					}
				}
			}
			for _, tx := range someTx() {
				if d, is := c.Deal(tx); is || d != (chair.Deal{}) {
					t.Errorf("%s: Deal(%d) = %+v, %t", name, tx, d, is)
				}
			}
			if l := c.Open(); len(l) != 0 {
				t.Errorf("%s: Open() = %v", name, l)
			}
			if l := c.Log(); len(l) != 0 {
				t.Errorf("%s: Log() = %v", name, l)
			}
		}
	}
}

// P15.1: what kinds and transactions there are

func TestNoKind(t *testing.T) {
	for _, kind := range append([]int{0, 5, -1, 6, 7}, strange()...) {
		if kind >= 1 && kind <= 4 {
			continue // where an int has 32 bits, some of the strange numbers are cut short
		}
		for _, x := range ways() {
			w := after(t, x.calls...)
			for _, tx := range []int{-1, 0, 1, 999, 1000} {
				w.fails(record{Kind: kind, Tx: tx, Who: 1, Epoch: 6, Vote: yes, Now: 12, Span: 1}, api.ErrArg)
			}
		}
	}
}

func TestNoTransaction(t *testing.T) {
	for _, x := range ways() {
		w := after(t, x.calls...)
		for kind := 1; kind <= 4; kind++ {
			for _, tx := range append([]int{-1, -2, -999, 1000, 1001}, strange()...) {
				if tx < 0 || tx > 999 {
					w.fails(record{Kind: kind, Tx: tx, Who: 1, Epoch: 6, Vote: yes, Now: 12, Span: 1}, api.ErrArg)
				}
			}
		}
	}
}

func TestEdgesOfTransactions(t *testing.T) {
	for _, tx := range []int{0, 1, 2, 255, 256, 500, 998, 999} {
		w := after(t, begin(tx, 6, 10, 5, 2))
		w.works(vote(tx, 1, 1, yes, 10), extend(tx, 2, 1, 14))
		w.works(record{Kind: 4, Tx: tx, Now: 19})
		w.decides(vote(tx, 2, 1, yes, 19))
		w.outcome(tx, commit)
		w = after(t, begin(1, 1, 10, 5, 0))
		w.decides(record{Kind: 4, Tx: tx, Now: 15}) // of any transaction, it is for all of them
		w.outcome(1, abort)
	}
}

// TestAllTransactions: a thousand of them, each with its own deal.
func TestAllTransactions(t *testing.T) {
	w := newTwin(t)
	for i := range 1000 {
		tx := i * 7 % 1000
		w.do(begin(tx, uint8(1+tx%255), int64(tx), int64(1+tx%13), tx%4))
	}
	w.seen()
	for tx := range 1000 {
		w.do(extend(tx, uint8(tx%8), 1+tx%3, int64(tx)), vote(tx, uint8(tx/8%8), 2, 1+tx%2, int64(tx+tx%20)))
	}
	w.seen()
	for now := range int64(1100) {
		w.do(tick(now))
	}
	w.seen()
	if l := w.c.Open(); len(l) != 0 {
		t.Errorf("Open() = %v", l)
	}
}

// P15.1: each kind in each state

func TestWays(t *testing.T) {
	for _, x := range ways() {
		w := after(t, x.calls...)
		w.seen()
		d, is := w.c.Deal(1)
		if is != (x.name != "none") || d != x.is {
			t.Errorf("%s: Deal(1) = %+v, %t", x.name, d, is)
		}
	}
}

// TestEachKindInEachState: beside the error, all that the chair tells behind it.
func TestEachKindInEachState(t *testing.T) {
	const ok, have, none, over, late = api.OK, api.ErrHave, api.ErrNone, api.ErrOver, api.ErrLate
	for name, want := range map[string][9]api.Errno{ // of the calls below
		"none":            {ok, none, none, none, none, none, none, none, ok},
		"new":             {have, ok, ok, late, late, ok, late, late, ok},
		"one vote":        {have, ok, ok, late, late, ok, late, late, ok},
		"extended":        {have, ok, ok, ok, late, ok, ok, late, ok},
		"committed":       {have, over, over, over, over, over, over, over, ok},
		"refused":         {have, over, over, over, over, over, over, over, ok},
		"refused at once": {have, over, over, over, over, over, over, over, ok},
		"over":            {have, over, over, over, over, over, over, over, ok},
	} {
		calls := [9]record{
			begin(1, 1, 10, 5, 0), vote(1, 2, 9, yes, 14), vote(1, 2, 9, no, 14), vote(1, 2, 9, yes, 15), vote(1, 2, 9, yes, 20),
			extend(1, 2, 9, 14), extend(1, 2, 9, 15), extend(1, 2, 9, 20), tick(14),
		}
		for i, r := range calls {
			w := after(t, wayTo(name)...)
			if _, e := w.m.clone().do(r); e != want[i] {
				t.Errorf("%s, %+v: %d, want %d", name, r, e, want[i])
			}
			w.do(r)
			w.seen()
		}
	}
}

// P15.1, Begin

// TestBeginOfEachSet: the mobiles of the bits, of one, of some, of all; of none it is refused.
func TestBeginOfEachSet(t *testing.T) {
	for who := range 256 {
		w := newTwin(t)
		if who == 0 {
			w.fails(begin(1, 0, 10, 5, 2), api.ErrArg)
			continue
		}
		w.works(begin(1, uint8(who), 10, 5, 2))
		var in [8]bool
		for id := range in {
			in[id] = who>>id&1 == 1
		}
		w.deal(1, chair.Deal{Tally: tally.Tally{Who: in}, Terms: terms.Terms{Deadline: 15, Span: 5, Cap: 2}})
		for id := range 256 {
			w.do(vote(1, uint8(id), 1, yes, 10))
		}
		w.outcome(1, commit)
		if n := len(w.c.Log()); n != 1+bits.OnesCount(uint(who)) {
			t.Errorf("of the mobiles %b, %d voted", who, n-1)
		}
	}
}

func TestBeginOfHad(t *testing.T) {
	for _, x := range ways()[1:] {
		w := after(t, x.calls...)
		for _, r := range []record{x.calls[0], begin(1, 1, 10, 5, 2), begin(1, 0, 10, 5, 2), begin(1, 6, -1, 5, 2), begin(1, 6, lastTick, 5, 2)} {
			w.fails(r, api.ErrHave)
		}
		w.works(begin(2, 1, 10, 5, 2), begin(0, 255, 10, 5, 2)) // another transaction is another deal
		w.deal(1, x.is)
	}
}

// TestBeginTerms: the edges of each number of the terms, and beyond them.
func TestBeginTerms(t *testing.T) {
	for _, r := range []record{
		begin(1, 1, 0, 1, 0), begin(1, 1, 0, lastSpan, 0), begin(1, 1, 0, 1, 100), begin(1, 1, 0, lastSpan, 100),
		begin(1, 1, lastTick-1, 1, 0), begin(1, 1, lastTick-101, 1, 100), begin(1, 1, lastTick-101*lastSpan, lastSpan, 100), begin(1, 1, 3, 4, 5),
	} {
		w := newTwin(t)
		w.works(r)
		w.deal(1, chair.Deal{
			Tally: tally.Tally{Who: [8]bool{0: true}},
			Terms: terms.Terms{Deadline: r.Now + r.Span, Span: r.Span, Cap: r.Cap},
		})
	}
	w := newTwin(t)
	for _, now := range strangeTimes() {
		w.fails(begin(1, 1, now, 5, 2), api.ErrArg)
	}
	for _, span := range append(strangeTimes(), 0, lastSpan+1, lastTick) {
		w.fails(begin(1, 1, 10, span, 2), api.ErrArg)
	}
	for _, most := range append(strange(), 101, 102) {
		if most < 0 || most > 100 {
			w.fails(begin(1, 1, 10, 5, most), api.ErrArg)
		}
	}
	for _, r := range []record{
		begin(1, 1, lastTick, 1, 0), begin(1, 1, lastTick-1, 2, 0), begin(1, 1, lastTick-100, 1, 100), begin(1, 1, lastTick-101*lastSpan+1, lastSpan, 100), begin(1, 255, lastTick, lastSpan, 100),
	} {
		w.fails(r, api.ErrBig)
	}
	w.works(begin(1, 1, 10, 5, 2)) // none of them left anything behind
}

// TestBeginInAnyTime: that of another deal does not matter.
func TestBeginInAnyTime(t *testing.T) {
	w := after(t, begin(1, 1, 1000, 5, 2))
	w.decides(tick(5000))
	w.works(begin(2, 1, 0, 5, 2), begin(3, 1, lastTick-5, 5, 0), begin(4, 1, 1000, 1, 1))
	w.gives(tick(4), 0, api.OK)
	w.gives(tick(5), 1, api.OK)
}

// P15.1, Vote

func TestVote(t *testing.T) {
	w := after(t, begin(1, 255, 10, 5, 2))
	for id := range uint8(7) {
		w.works(vote(1, id, 1+int(id), yes, 10+int64(id)%5))
		w.outcome(1, open)
	}
	w.decides(vote(1, 7, lastEpoch, yes, 14))
	w.outcome(1, commit)
	w.deal(1, chair.Deal{
		Tally: tally.Tally{
			Who:    [8]bool{true, true, true, true, true, true, true, true},
			Votes:  [8]int{yes, yes, yes, yes, yes, yes, yes, yes},
			Epochs: [8]int{1, 2, 3, 4, 5, 6, 7, lastEpoch},
		},
		Terms:   terms.Terms{Deadline: 15, Span: 5, Cap: 2},
		Outcome: commit,
	})
}

// TestOneNo: of whichever mobile, whenever it comes.
func TestOneNo(t *testing.T) {
	for id := range uint8(8) {
		for behind := range uint8(8) {
			w := after(t, begin(1, 255, 10, 5, 2))
			for other := range behind {
				if other != id {
					w.works(vote(1, other, 1, yes, 10))
				}
			}
			w.decides(vote(1, id, 1, no, 10))
			w.outcome(1, abort)
			w.fails(vote(1, (id+1)%8, 1, yes, 10), api.ErrOver)
		}
	}
}

// TestVoteOfOne: a deal of a single mobile is decided by its vote.
func TestVoteOfOne(t *testing.T) {
	for id := range uint8(8) {
		for v, want := range map[int]int{yes: commit, no: abort} {
			w := after(t, begin(1, 1<<id, 10, 5, 2))
			w.decides(vote(1, id, 1, v, 10))
			w.outcome(1, want)
		}
	}
}

func TestVoteByTime(t *testing.T) {
	for now, e := range map[int64]api.Errno{
		14: api.OK, 10: api.OK, 9: api.OK, 0: api.OK, -1: api.OK, math.MinInt64: api.OK,
		15: api.ErrLate, 16: api.ErrLate, 20: api.ErrLate, lastTick: api.ErrLate, math.MaxInt64: api.ErrLate,
	} {
		w := after(t, wayTo("new")...)
		w.gives(vote(1, 1, 1, yes, now), 0, e)
		w.outcome(1, open) // late votes alone decide nothing
	}
	w := after(t, wayTo("extended")...)
	w.fails(vote(1, 1, 1, yes, 20), api.ErrLate)
	w.works(vote(1, 1, 1, yes, 19))
	w.decides(vote(1, 2, 5, yes, 15))
}

// TestVoteOfEachMobile: of those that take part alone, and of none that there is not.
func TestVoteOfEachMobile(t *testing.T) {
	for id := range 256 {
		w := after(t, begin(1, 2+4+128, 10, 5, 2))
		want := api.ErrNone
		if id == 1 || id == 2 || id == 7 {
			want = api.OK
		}
		w.gives(vote(1, uint8(id), 1, yes, 14), 0, want)
		w.gives(extend(1, uint8(id), 1, 14), 0, want)
	}
}

func TestVoteByEpoch(t *testing.T) {
	w := after(t, begin(1, 3, 10, 5, 2))
	for _, epoch := range append([]int{0, -1, lastEpoch + 1}, strange()...) {
		if epoch < 1 || epoch > lastEpoch {
			w.fails(vote(1, 0, epoch, yes, 14), api.ErrArg)
		}
	}
	w.works(vote(1, 0, 1, yes, 14))
	w.works(vote(1, 0, 5, yes, 14))
	for epoch := 1; epoch < 5; epoch++ {
		w.fails(vote(1, 0, epoch, yes, 14), api.ErrOld)
	}
	w.works(vote(1, 0, 5, yes, 14), vote(1, 0, 6, yes, 14), vote(1, 0, lastEpoch, yes, 14))
	w.fails(vote(1, 0, lastEpoch-1, yes, 14), api.ErrOld)
	w.fails(vote(1, 0, 1, yes, 14), api.ErrOld)
	w.decides(vote(1, 1, 1, yes, 14)) // the epochs of another mobile are others
}

func TestVoteOfEachKind(t *testing.T) {
	for _, v := range append([]int{none, 3, 4, -1, -2}, strange()...) {
		w := after(t, wayTo("one vote")...)
		if v != yes && v != no {
			w.fails(vote(1, 2, 1, v, 14), api.ErrArg)
			w.fails(vote(1, 1, 3, v, 14), api.ErrArg)
		}
	}
}

func TestVoteAgain(t *testing.T) {
	w := after(t, wayTo("one vote")...)
	w.works(vote(1, 1, 3, yes, 14), vote(1, 1, 3, yes, 10))
	w.fails(vote(1, 1, 3, no, 14), api.ErrHave)
	w.fails(vote(1, 1, 9, no, 14), api.ErrHave) // its epoch is not heard, either
	w.works(vote(1, 1, 3, yes, 14), vote(1, 1, 8, yes, 14))
	w.fails(vote(1, 1, 3, no, 14), api.ErrOld)
	w.decides(vote(1, 2, 1, no, 14))
	for _, v := range []int{yes, no} {
		w.fails(vote(1, 1, 8, v, 14), api.ErrOver)
		w.fails(vote(1, 2, 1, v, 14), api.ErrOver)
	}
}

// TestVoteForOneDeal: those of other transactions don't change, whoever takes part in them.
func TestVoteForOneDeal(t *testing.T) {
	w := after(t, begin(1, 3, 10, 5, 2), begin(2, 3, 10, 5, 2), begin(0, 3, 10, 5, 2))
	w.works(vote(1, 0, 7, yes, 14), vote(2, 0, 1, yes, 14), extend(0, 0, 1, 14))
	w.decides(vote(1, 1, 7, yes, 14))
	w.decides(vote(2, 1, 1, no, 14))
	w.outcome(0, open)
	w.outcome(1, commit)
	w.outcome(2, abort)
}

// P15.1, Extend

// TestExtend: as often as it may, and once more; each time up to the deadline that there is.
func TestExtend(t *testing.T) {
	for _, most := range []int{0, 1, 2, 7, 99, 100} {
		w := after(t, begin(1, 6, 10, 5, most))
		for used := range most {
			deadline := int64(15 + 5*used)
			w.fails(extend(1, 1, 1, deadline), api.ErrLate)
			w.works(extend(1, 1, 1, deadline-1))
			w.deal(1, chair.Deal{Tally: of(none, 1, none, 0), Terms: terms.Terms{Deadline: deadline + 5, Span: 5, Used: used + 1, Cap: most}})
		}
		w.fails(extend(1, 1, 1, 10), api.ErrCap)
		w.fails(extend(1, 2, 9, 14+5*int64(most)), api.ErrCap)
		w.fails(extend(1, 2, 9, 15+5*int64(most)), api.ErrLate)
		w.works(vote(1, 2, 1, yes, 14+5*int64(most)))
		w.decides(tick(15 + 5*int64(most)))
	}
}

// TestExtendHears: the epoch counts for the votes behind it.
func TestExtendHears(t *testing.T) {
	w := after(t, wayTo("new")...)
	w.works(extend(1, 1, 4, 14))
	w.fails(vote(1, 1, 3, yes, 14), api.ErrOld)
	w.fails(extend(1, 1, 3, 14), api.ErrOld)
	w.works(vote(1, 1, 4, yes, 14), extend(1, 2, lastEpoch, 14))
	w.fails(vote(1, 2, lastEpoch-1, yes, 14), api.ErrOld)
	w.deal(1, chair.Deal{Tally: of(yes, 4, none, lastEpoch), Terms: terms.Terms{Deadline: 25, Span: 5, Used: 2, Cap: 2}})
	w.decides(vote(1, 2, lastEpoch, yes, 24))
}

// TestExtendThatIsRefused: by its terms, behind a mobile that was heard; the mobile's epoch is the one that it was.
func TestExtendThatIsRefused(t *testing.T) {
	for _, c := range []struct {
		calls []record
		now   int64
		e     api.Errno
	}{
		{[]record{begin(1, 6, 10, 5, 0), vote(1, 1, 3, yes, 10)}, 14, api.ErrCap},
		{[]record{begin(1, 6, 10, 5, 0), vote(1, 1, 3, yes, 10)}, 15, api.ErrLate},
		{[]record{begin(1, 6, 10, 5, 2), vote(1, 1, 3, yes, 10)}, 15, api.ErrLate},
		{[]record{begin(1, 6, 10, 5, 1), vote(1, 1, 3, yes, 10), extend(1, 1, 3, 10)}, 14, api.ErrCap},
	} {
		w := after(t, c.calls...)
		was, _ := w.c.Deal(1)
		w.fails(extend(1, 1, 9, c.now), c.e)
		w.fails(extend(1, 2, 9, c.now), c.e)
		w.deal(1, was)
		w.works(vote(1, 1, 3, yes, 14)) // an epoch of 9 was not heard
		w.decides(vote(1, 2, 1, yes, 14))
	}
}

func TestExtendByEpoch(t *testing.T) {
	w := after(t, begin(1, 6, 10, 5, 100))
	for _, epoch := range append([]int{0, -1, lastEpoch + 1}, strange()...) {
		if epoch < 1 || epoch > lastEpoch {
			w.fails(extend(1, 1, epoch, 14), api.ErrArg)
		}
	}
	w.works(extend(1, 1, 1, 14), extend(1, 1, 5, 14))
	w.fails(extend(1, 1, 4, 14), api.ErrOld)
	w.works(extend(1, 1, 5, 14), extend(1, 1, 6, 14), extend(1, 1, lastEpoch, 14))
	w.fails(extend(1, 1, lastEpoch-1, 14), api.ErrOld)
	w.works(extend(1, 2, 1, 14))
}

func TestExtendByTime(t *testing.T) {
	for now, e := range map[int64]api.Errno{
		14: api.OK, 9: api.OK, 0: api.OK, -1: api.OK, math.MinInt64: api.OK,
		15: api.ErrLate, 16: api.ErrLate, lastTick: api.ErrLate, math.MaxInt64: api.ErrLate,
	} {
		w := after(t, wayTo("new")...)
		w.gives(extend(1, 1, 1, now), 0, e)
	}
}

// TestExtendUpToTheLastTick: the greatest deadline that there may be.
func TestExtendUpToTheLastTick(t *testing.T) {
	w := after(t, begin(1, 1, lastTick-3, 1, 2))
	w.works(extend(1, 0, 1, lastTick-3), extend(1, 0, 1, lastTick-2))
	w.fails(extend(1, 0, 1, lastTick-1), api.ErrCap)
	w.fails(vote(1, 0, 1, yes, lastTick), api.ErrLate)
	w.gives(tick(lastTick-1), 0, api.OK)
	w.decides(tick(lastTick))
}

// P15.1, Tick

// TestTick: none, one and several deals are over, and some decided already; a tick at the same time again aborts none.
func TestTick(t *testing.T) {
	w := after(t,
		begin(5, 1, 0, 10, 0), begin(1, 1, 0, 20, 0), begin(999, 1, 5, 15, 3), begin(0, 1, 0, 30, 0), begin(7, 1, 0, 10, 1), begin(8, 1, 0, 10, 0), begin(9, 1, 0, 10, 0),
		extend(7, 0, 1, 0), vote(8, 0, 1, yes, 9), vote(9, 0, 1, no, 9),
	)
	for _, x := range []struct {
		now  int64
		n    int
		open []int
	}{
		{-1, 0, []int{0, 1, 5, 7, 999}}, {0, 0, []int{0, 1, 5, 7, 999}}, {9, 0, []int{0, 1, 5, 7, 999}},
		{10, 1, []int{0, 1, 7, 999}}, {10, 0, []int{0, 1, 7, 999}}, {19, 0, []int{0, 1, 7, 999}},
		{20, 3, []int{0}}, {20, 0, []int{0}}, {5, 0, []int{0}}, {29, 0, []int{0}}, {31, 1, nil}, {31, 0, nil}, {math.MaxInt64, 0, nil},
	} {
		w.gives(tick(x.now), x.n, api.OK)
		if l := w.c.Open(); !slices.Equal(l, x.open) {
			t.Errorf("Open() behind a Tick at %d: %v", x.now, l)
		}
	}
	w.outcome(8, commit)
	for _, tx := range []int{0, 1, 5, 7, 9, 999} {
		w.outcome(tx, abort)
	}
}

// TestTickLeavesVotesAndTerms: it changes outcomes alone.
func TestTickLeavesVotesAndTerms(t *testing.T) {
	for _, x := range ways()[1:] {
		w := after(t, x.calls...)
		want := x.is
		aborted := 0
		if want.Outcome == open {
			want.Outcome, aborted = abort, 1
		}
		w.gives(tick(20), aborted, api.OK)
		w.deal(1, want)
		w.gives(tick(20), 0, api.OK)
	}
}

func TestTickOfNoDeal(t *testing.T) {
	w := newTwin(t)
	for _, now := range append(strangeTimes(), 0, 1, lastTick) {
		w.gives(tick(now), 0, api.OK)
	}
	w.works(begin(1, 1, 0, 1, 0)) // a time is not kept
	w.decides(vote(1, 0, 1, yes, 0))
}

func TestTickAtAnyTime(t *testing.T) {
	for _, now := range strangeTimes() {
		w := after(t, wayTo("new")...)
		n := 0
		if now > 0 {
			n = 1
		}
		w.gives(tick(now), n, api.OK)
	}
}

// TestTickOfAll: how many are aborted is counted over all of them.
func TestTickOfAll(t *testing.T) {
	w := newTwin(t)
	for tx := range 1000 {
		w.do(begin(tx, 255, 0, int64(1+tx%10), 0))
	}
	for now := range int64(10) {
		w.gives(tick(now+1), 100, api.OK)
		w.gives(tick(now+1), 0, api.OK)
	}
}

// R2: which error, where several apply

func TestFirstError(t *testing.T) {
	w := after(t, wayTo("one vote")...)
	w.works(begin(2, 1, 10, 5, 0), begin(3, 1, 10, 5, 0))
	w.decides(vote(3, 0, 1, yes, 10))
	for _, x := range []struct {
		r record
		e api.Errno
	}{
		{record{Kind: 5, Tx: 7}, api.ErrArg},
		{record{Kind: 0, Tx: 1, Who: 9}, api.ErrArg},
		{vote(1000, 9, 0, 3, 99), api.ErrArg},
		{extend(-1, 9, 0, 99), api.ErrArg},
		{begin(1000, 0, lastTick, 5, 2), api.ErrArg},
		{begin(1, 0, lastTick, 5, 2), api.ErrHave},
		{begin(1, 0, -1, 0, -1), api.ErrHave},
		{begin(3, 1, lastTick, 5, 2), api.ErrHave},
		{begin(4, 0, lastTick, 5, 2), api.ErrArg},
		{begin(4, 1, lastTick, 0, 2), api.ErrArg},
		{vote(4, 9, 0, 3, 99), api.ErrNone},
		{extend(4, 9, 0, 99), api.ErrNone},
		{vote(3, 9, 0, 3, 99), api.ErrOver},
		{extend(3, 9, 0, 99), api.ErrOver},
		{vote(3, 0, 1, yes, 99), api.ErrOver},
		{vote(1, 9, 0, 3, 15), api.ErrLate},
		{vote(1, 1, 2, no, 15), api.ErrLate},
		{vote(1, 1, 3, no, 15), api.ErrLate},
		{vote(1, 9, 1, 3, 14), api.ErrArg},
		{vote(1, 9, 0, yes, 14), api.ErrArg},
		{vote(1, 9, 1, yes, 14), api.ErrNone},
		{vote(1, 1, 2, 3, 14), api.ErrArg},
		{vote(1, 1, 2, no, 14), api.ErrOld},
		{vote(1, 1, 3, no, 14), api.ErrHave},
		{extend(1, 9, 0, 15), api.ErrArg},
		{extend(1, 9, 1, 15), api.ErrNone},
		{extend(1, 1, 2, 15), api.ErrOld},
		{extend(1, 1, 3, 15), api.ErrLate},
		{extend(2, 1, 1, 15), api.ErrNone},
		{extend(2, 0, 1, 15), api.ErrLate},
		{extend(2, 0, 1, 14), api.ErrCap},
	} {
		w.fails(x.r, x.e)
	}
}

// P15.1, every field

// TestEveryField: with the least, the greatest and other strange numbers, in each state of the transaction.
func TestEveryField(t *testing.T) {
	calls := []record{begin(1, 6, 10, 5, 2), vote(1, 2, 9, yes, 14), vote(1, 1, 3, no, 14), extend(1, 2, 9, 14), tick(15)}
	for _, x := range ways() {
		for _, r := range calls {
			for _, strange := range fieldsOf(r) {
				w := after(t, x.calls...)
				w.do(strange)
				for tx := range 3 {
					seenDeal(t, w.c, w.m, w.calls, tx)
				}
				seenLists(t, w.c, w.m, w.calls)
			}
		}
	}
}

// fieldsOf are a record with each of its fields as any other number.
func fieldsOf(r record) []record {
	var l []record
	for _, n := range append([]int{0, 1, 2, 3, 4, 5, 99, 100, 101, 999, 1000, lastEpoch}, strange()...) {
		for _, field := range []func(*record) *int{
			func(r *record) *int { return &r.Kind }, func(r *record) *int { return &r.Tx }, func(r *record) *int { return &r.Epoch },
			func(r *record) *int { return &r.Vote }, func(r *record) *int { return &r.Cap },
		} {
			x := r
			*field(&x) = n
			l = append(l, x)
		}
	}
	for _, n := range append([]int64{0, 1, 9, 14, 15, 16, lastSpan, lastSpan + 1, lastTick - 15, lastTick - 14, lastTick}, strangeTimes()...) {
		a, b := r, r
		a.Now, b.Span = n, n
		l = append(l, a, b)
	}
	for who := range 256 {
		x := r
		x.Who = uint8(who)
		l = append(l, x)
	}
	return l
}

// TestUnusedFields: those that a kind does not use change nothing but what the Log keeps.
func TestUnusedFields(t *testing.T) {
	for _, x := range ways() {
		w, plainly := newTwin(t), newTwin(t)
		for _, r := range x.calls {
			w.do(filled(r))
			plainly.do(r)
		}
		for tx := range 3 {
			seenDeal(t, w.c, plainly.m, w.calls, tx)
		}
		if l := w.c.Open(); !slices.Equal(l, plainly.m.open()) {
			t.Errorf("%+v: Open() = %v", w.calls, l)
		}
		seenLists(t, w.c, w.m, w.calls)
	}
}

// filled is a record with strange numbers in the fields that its kind does not use.
func filled(r record) record {
	if r.Kind != 1 {
		r.Span, r.Cap = math.MinInt64, math.MaxInt
	}
	if r.Kind != 2 {
		r.Vote = math.MinInt
	}
	if r.Kind == 1 || r.Kind == 4 {
		r.Epoch = math.MaxInt
	}
	if r.Kind == 4 {
		r.Tx, r.Who = 999, 255
	}
	return r
}
