package chair_test

import (
	"maps"
	"math"
	"slices"
	"testing"

	"waystation/api"
	"waystation/chair"
	"waystation/tally"
	"waystation/terms"
)

type record = chair.Record

// The limits and the votes are written as numbers, so that the tests do not go by the program's own ones.
const (
	lastTick  = 1099511627776
	lastSpan  = 1048576
	lastCap   = 100
	lastEpoch = 1048576

	none = 0
	yes  = 1
	no   = 2

	open   = 0
	commit = 1
	abort  = 2
)

// begin is a deal for the mobiles whose bits are set.
func begin(tx int, who uint8, now, span int64, most int) record {
	return record{Kind: 1, Tx: tx, Who: who, Now: now, Span: span, Cap: most}
}

func vote(tx int, who uint8, epoch, v int, now int64) record {
	return record{Kind: 2, Tx: tx, Who: who, Epoch: epoch, Vote: v, Now: now}
}

func extend(tx int, who uint8, epoch int, now int64) record {
	return record{Kind: 3, Tx: tx, Who: who, Epoch: epoch, Now: now}
}

func tick(now int64) record { return record{Kind: 4, Now: now} }

// The numbers beyond all edges, some of which would be in range if they were cut short.

func strange() []int {
	l := []int{math.MinInt, math.MinInt + 1, -lastEpoch, -256, -1, 256, 257, 65537, lastEpoch + 1, math.MaxInt32, math.MaxInt - 1, math.MaxInt}
	for _, n := range []int64{1 << 32, 1<<32 + 1, 1<<32 + 2, -1<<32 + 1} {
		l = append(l, int(n))
	}
	return l
}

func strangeTimes() []int64 {
	return []int64{math.MinInt64, math.MinInt64 + 1, -lastTick, -1 << 32, -1, lastTick + 1, 2 * lastTick, math.MaxInt64 - lastSpan, math.MaxInt64 - 1, math.MaxInt64}
}

// plain does what the chapter says, and those of the layers below, in the plainest way, apart from these layers.
type plain struct {
	deals map[int]plainDeal
	log   []record
}

type plainDeal struct {
	in             [8]bool
	votes, epochs  [8]int
	deadline, span int64
	used, most     int
	outcome        int
}

func newPlain() *plain { return &plain{deals: map[int]plainDeal{}} }

func (m *plain) clone() *plain { return &plain{maps.Clone(m.deals), slices.Clone(m.log)} }

// do is P15.1, each error at its place.
func (m *plain) do(r record) (int, api.Errno) {
	if r.Kind != 1 && r.Kind != 2 && r.Kind != 3 && r.Kind != 4 {
		return 0, api.ErrArg
	}
	if r.Tx < 0 || r.Tx > 999 {
		return 0, api.ErrArg
	}
	n, e := m.kind(r)
	if e == api.OK {
		m.log = append(m.log, r)
	}
	return n, e
}

func (m *plain) kind(r record) (int, api.Errno) {
	switch r.Kind {
	case 1:
		return 0, m.begin(r)
	case 2:
		return m.vote(r)
	case 3:
		return 0, m.extend(r)
	}
	return m.tick(r), api.OK
}

func (m *plain) begin(r record) api.Errno {
	if _, is := m.deals[r.Tx]; is {
		return api.ErrHave
	}
	if r.Who == 0 {
		return api.ErrArg
	}
	if r.Now < 0 || r.Now > lastTick || r.Span < 1 || r.Span > lastSpan || r.Cap < 0 || r.Cap > lastCap {
		return api.ErrArg
	}
	if r.Now+int64(r.Cap+1)*r.Span > lastTick { // in these ranges it can't wrap around
		return api.ErrBig
	}
	d := plainDeal{deadline: r.Now + r.Span, span: r.Span, most: r.Cap}
	for id, bit := range []uint8{1, 2, 4, 8, 16, 32, 64, 128} {
		d.in[id] = r.Who/bit%2 == 1
	}
	m.deals[r.Tx] = d
	return api.OK
}

// running is the deal that a Vote or an Extend is for.
func (m *plain) running(r record) (plainDeal, api.Errno) {
	d, is := m.deals[r.Tx]
	if !is {
		return d, api.ErrNone
	}
	if d.outcome != open {
		return d, api.ErrOver
	}
	return d, api.OK
}

func (m *plain) vote(r record) (int, api.Errno) {
	d, e := m.running(r)
	if e != api.OK {
		return 0, e
	}
	if r.Now >= d.deadline {
		return 0, api.ErrLate
	}
	if r.Vote != yes && r.Vote != no {
		return 0, api.ErrArg
	}
	if d, e = d.hear(r); e != api.OK {
		return 0, e
	}
	if had := d.votes[r.Who]; had != none && had != r.Vote {
		return 0, api.ErrHave
	}
	d.votes[r.Who] = r.Vote
	d.outcome = d.votesOutcome()
	m.deals[r.Tx] = d
	if d.outcome == open {
		return 0, api.OK
	}
	return 1, api.OK
}

func (d plainDeal) hear(r record) (plainDeal, api.Errno) {
	if r.Epoch < 1 || r.Epoch > lastEpoch {
		return d, api.ErrArg
	}
	if r.Who > 7 || !d.in[r.Who] {
		return d, api.ErrNone
	}
	if r.Epoch < d.epochs[r.Who] {
		return d, api.ErrOld
	}
	d.epochs[r.Who] = r.Epoch
	return d, api.OK
}

func (d plainDeal) votesOutcome() int {
	all := true
	for id, in := range d.in {
		if d.votes[id] == no {
			return abort
		}
		if in && d.votes[id] != yes {
			all = false
		}
	}
	if all {
		return commit
	}
	return open
}

func (m *plain) extend(r record) api.Errno {
	d, e := m.running(r)
	if e != api.OK {
		return e
	}
	if d, e = d.hear(r); e != api.OK {
		return e
	}
	if r.Now >= d.deadline {
		return api.ErrLate
	}
	if d.used == d.most {
		return api.ErrCap
	}
	d.deadline += d.span
	d.used++
	m.deals[r.Tx] = d
	return api.OK
}

func (m *plain) tick(r record) int {
	n := 0
	for tx := range 1000 {
		if d, is := m.deals[tx]; is && d.outcome == open && r.Now >= d.deadline {
			d.outcome = abort
			m.deals[tx] = d
			n++
		}
	}
	return n
}

func (m *plain) deal(tx int) (chair.Deal, bool) {
	d, is := m.deals[tx]
	votes := tally.Tally{Who: d.in, Votes: d.votes, Epochs: d.epochs}
	limits := terms.Terms{Deadline: d.deadline, Span: d.span, Used: d.used, Cap: d.most}
	return chair.Deal{Tally: votes, Terms: limits, Outcome: d.outcome}, is
}

func (m *plain) open() []int {
	var l []int
	for tx := range 1000 {
		if d, is := m.deals[tx]; is && d.outcome == open {
			l = append(l, tx)
		}
	}
	return l
}

// twin is a chair and the plain one, on which the same is done.
type twin struct {
	t     *testing.T
	c     *chair.Chair
	m     *plain
	calls []record
}

func newTwin(t *testing.T) *twin {
	t.Helper()
	c := chair.New()
	if c == nil {
		t.Fatal("New() = nil")
	}
	return &twin{t: t, c: c, m: newPlain()}
}

// after returns a twin on which some calls were done.
func after(t *testing.T, calls ...record) *twin {
	t.Helper()
	w := newTwin(t)
	w.do(calls...)
	return w
}

// do checks what calls return.
func (w *twin) do(calls ...record) {
	w.t.Helper()
	for _, r := range calls {
		n, e := w.m.do(r)
		w.is(r, n, e)
	}
}

// is checks what a call returns; the plain one did it already.
func (w *twin) is(r record, n int, e api.Errno) {
	w.t.Helper()
	w.calls = append(w.calls, r)
	if gotN, gotE := w.c.Do(r); gotN != n || gotE != e {
		w.t.Fatalf("%+v: %d, %d, want %d, %d", w.calls, gotN, gotE, n, e)
	}
}

// gives checks what one call returns, against numbers that are told here and not by the plain one alone.
func (w *twin) gives(r record, n int, e api.Errno) {
	w.t.Helper()
	if plainN, plainE := w.m.do(r); plainN != n || plainE != e {
		w.t.Fatalf("%+v behind %+v: the test itself is at odds: %d, %d and %d, %d", r, w.calls, plainN, plainE, n, e)
	}
	w.is(r, n, e)
	w.seen()
}

func (w *twin) works(calls ...record) {
	w.t.Helper()
	for _, r := range calls {
		w.gives(r, 0, api.OK)
	}
}

func (w *twin) decides(r record) {
	w.t.Helper()
	w.gives(r, 1, api.OK)
}

func (w *twin) fails(r record, e api.Errno) {
	w.t.Helper()
	w.gives(r, 0, e)
}

// outcome checks that of one deal.
func (w *twin) outcome(tx, want int) {
	w.t.Helper()
	if d, is := w.c.Deal(tx); !is || d.Outcome != want {
		w.t.Errorf("%+v: Deal(%d) = %+v, %t, want the outcome %d", w.calls, tx, d, is, want)
	}
}

// seen checks all that Deal, Open and Log tell.
func (w *twin) seen() {
	w.t.Helper()
	seenAs(w.t, w.c, w.m, w.calls)
}

func seenAs(t *testing.T, c *chair.Chair, m *plain, calls []record) {
	t.Helper()
	for tx := -1; tx <= 1000; tx++ {
		seenDeal(t, c, m, calls, tx)
	}
	seenLists(t, c, m, calls)
}

func seenDeal(t *testing.T, c *chair.Chair, m *plain, calls []record, tx int) {
	t.Helper()
	d, is := c.Deal(tx)
	if want, wanted := m.deal(tx); is != wanted || d != want {
		t.Fatalf("%+v: Deal(%d) = %+v, %t, want %+v, %t", calls, tx, d, is, want, wanted)
	}
}

func seenLists(t *testing.T, c *chair.Chair, m *plain, calls []record) {
	t.Helper()
	if l := c.Open(); !slices.Equal(l, m.open()) {
		t.Fatalf("%+v: Open() = %v, want %v", calls, l, m.open())
	}
	if l := c.Log(); !slices.Equal(l, m.log) {
		t.Fatalf("%+v: Log() = %+v, want %+v", calls, l, m.log)
	}
}
