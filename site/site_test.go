package site_test

import (
	"math"
	"slices"
	"testing"

	"waystation/api"
	"waystation/part"
	"waystation/site"
)

type (
	record = site.Record
	deltas = []api.Delta
)

const (
	least    = math.MinInt64
	greatest = math.MaxInt64
)

func begin(tx int) record { return record{Kind: site.Begin, Tx: tx} }

func read(tx int, key uint8) record { return record{Kind: site.Read, Tx: tx, Key: key} }

func add(tx int, key uint8, n int64) record {
	return record{Kind: site.Add, Tx: tx, Key: key, N: n}
}

func vote(tx int, n int64) record { return record{Kind: site.Vote, Tx: tx, N: n} }

func local(tx int) record { return record{Kind: site.Local, Tx: tx} }

func decide(tx int, n int64) record { return record{Kind: site.Decide, Tx: tx, N: n} }

func commit(tx int) record { return decide(tx, api.Commit) }

func abort(tx int) record { return decide(tx, api.Abort) }

// sets are calls by which the number of a key is n, and nobody holds it.
func sets(tx int, key uint8, n int64) []record {
	return []record{begin(tx), add(tx, key, n), vote(tx, 1), commit(tx)}
}

// way is calls that lead a transaction to a state.
type way struct {
	name  string
	calls []record
	is    part.Part
}

// ways are those to no part, and to each of the eight shapes that a part may have; with Adds of keys 3 and 4, and key 5 read.
func ways(tx int) []way {
	work := []record{begin(tx), add(tx, 3, 5), read(tx, 5), add(tx, 4, -7)}
	adds := deltas{{Key: 3, By: 5}, {Key: 4, By: -7}}
	to := func(more ...record) []record { return slices.Concat(work, more) }
	return []way{
		{"none", nil, part.Part{}},
		{"run, empty", []record{begin(tx)}, part.Part{}},
		{"run", to(), part.Part{Adds: adds}},
		{"ready, empty", []record{begin(tx), vote(tx, 1)}, part.Part{State: part.Ready}},
		{"ready", to(vote(tx, 1)), part.Part{State: part.Ready, Adds: adds}},
		{"ready, local", to(vote(tx, 1), local(tx)), part.Part{State: part.Ready, Adds: adds, Local: true}},
		{"refused", to(vote(tx, 0)), part.Part{State: part.Refused, Adds: adds}},
		{"committed", to(vote(tx, 1), commit(tx)), part.Part{State: part.Done, Adds: adds, Outcome: api.Commit}},
		{"committed, local", to(vote(tx, 1), local(tx), commit(tx)), part.Part{State: part.Done, Adds: adds, Local: true, Outcome: api.Commit}},
		{"aborted", to(vote(tx, 1), abort(tx)), part.Part{State: part.Done, Adds: adds, Outcome: api.Abort}},
		{"aborted from run", to(abort(tx)), part.Part{State: part.Done, Adds: adds, Outcome: api.Abort}},
		{"aborted from refused", to(vote(tx, 0), abort(tx)), part.Part{State: part.Done, Adds: adds, Outcome: api.Abort}},
		{"aborted, local", to(vote(tx, 1), local(tx), abort(tx)), part.Part{State: part.Done, Adds: adds, Local: true, Outcome: api.Abort}},
	}
}

// wayTo is the one way of that name.
func wayTo(tx int, name string) []record {
	for _, w := range ways(tx) {
		if w.name == name {
			return w.calls
		}
	}
	panic("no way to " + name)
}

// notCreated are the sites that New did not create.
func notCreated() map[string]*site.Site {
	return map[string]*site.Site{"nil": nil, "zero value": {}}
}

func numbers() []int64 { return []int64{0, 1, -1, 5, least, least + 1, greatest, greatest - 1} }

// The chapter's example

func TestExample(t *testing.T) {
	w := newTwin(t)
	w.works(begin(1), add(1, 3, 5), begin(2))
	w.fails(read(2, 3), api.ErrLock)
	w.works(vote(1, 1), local(1))
	w.gives(read(2, 3), 5, api.OK)
	w.works(abort(1))
	if n := w.s.Get(3); n != 0 {
		t.Errorf("Get(3) = %d", n)
	}
}

func TestKinds(t *testing.T) {
	got := []int{site.Begin, site.Read, site.Add, site.Vote, site.Local, site.Decide}
	if !slices.Equal(got, []int{1, 2, 3, 4, 5, 6}) {
		t.Errorf("the kinds: %v", got)
	}
}

// A new site, and those that New did not create

func TestNew(t *testing.T) {
	w := newTwin(t)
	w.seen()
	w.locked()
}

func TestNewSitesAreApart(t *testing.T) {
	a := after(t, sets(1, 3, 5)...)
	a.do(begin(2), add(2, 4, 1))
	b := newTwin(t)
	b.seen()
	b.gives(begin(1), 0, api.OK)
	b.gives(read(1, 4), 0, api.OK)
	a.seen()
	a.locked()
	b.locked()
}

func TestSitesThatNewDidNotCreate(t *testing.T) {
	for name, s := range notCreated() {
		for range 2 {
			for _, kind := range []int{math.MinInt, -1, 0, 1, 2, 3, 4, 5, 6, 7, math.MaxInt} {
				for _, tx := range []int{math.MinInt, -1, 0, 1, 999, 1000, math.MaxInt} {
					r := record{Kind: kind, Tx: tx, Key: 64, N: 1}
					if n, e := s.Do(r); n != 0 || e != api.ErrNil {
						t.Errorf("%s: Do(%v) = %d, %d", name, r, n, e)
					}
				}
			}
			for key := range 256 {
				if n := s.Get(uint8(key)); n != 0 {
					t.Errorf("%s: Get(%d) = %d", name, key, n)
				}
			}
			for _, tx := range []int{math.MinInt, -1, 0, 1, 999, 1000, math.MaxInt} {
				if p, is := s.Part(tx); is || !samePart(p, part.Part{}) {
					t.Errorf("%s: Part(%d) = %v, %t", name, tx, p, is)
				}
			}
			if l := s.Log(); len(l) != 0 {
				t.Errorf("%s: Log() = %v", name, l)
			}
		}
	}
}

// P10.1: what kinds and transactions there are

func TestNoKind(t *testing.T) {
	for _, kind := range []int{0, 7, -1, 8, 255, 257, 1 << 20, math.MinInt, math.MaxInt} {
		for _, x := range ways(1) {
			w := after(t, x.calls...)
			for _, tx := range []int{-1, 0, 1, 999, 1000} {
				w.fails(record{Kind: kind, Tx: tx, Key: 3, N: 1}, api.ErrArg)
			}
			w.locked()
		}
	}
}

func TestNoTransaction(t *testing.T) {
	for _, x := range ways(1) {
		w := after(t, x.calls...)
		for kind := 1; kind <= 6; kind++ {
			for _, tx := range []int{-1, -2, -999, 1000, 1001, 1 << 20, 1<<32 + 1, math.MinInt, math.MaxInt} {
				w.fails(record{Kind: kind, Tx: tx, Key: 3, N: 1}, api.ErrArg)
			}
		}
		w.locked()
	}
}

func TestEdgesOfTransactions(t *testing.T) {
	for _, tx := range []int{0, 1, 2, 500, 999} {
		w := newTwin(t)
		w.works(begin(tx), add(tx, 3, 5))
		w.gives(read(tx, 3), 5, api.OK)
		w.works(vote(tx, 1), local(tx), abort(tx))
		if p, is := w.s.Part(tx); !is || p.State != part.Done {
			t.Errorf("Part(%d) = %v, %t", tx, p, is)
		}
	}
}

// TestAllTransactions: a thousand of them, each with its own part.
func TestAllTransactions(t *testing.T) {
	w := newTwin(t)
	for tx := range 1000 {
		w.do(begin(tx))
	}
	for tx := range 1000 {
		w.do(read(tx, 7), vote(tx, int64(tx%2)), commit(tx), abort(tx))
	}
	w.seen()
}

// P10.1: each kind in each state

func TestWays(t *testing.T) {
	for _, x := range ways(1) {
		w := newTwin(t)
		for _, r := range x.calls {
			w.works(r)
		}
		p, is := w.s.Part(1)
		if is != (x.name != "none") || !samePart(p, x.is) {
			t.Errorf("%s: Part(1) = %v, %t", x.name, p, is)
		}
		w.locked()
	}
}

// TestEachKindInEachState: beside what the call returns, all that the site tells behind it, and its locks.
func TestEachKindInEachState(t *testing.T) {
	const ok, have, none, over = api.OK, api.ErrHave, api.ErrNone, api.ErrOver
	for name, want := range map[string][8]api.Errno{ // of Begin, Read, Add, Vote 1, Vote 0, Local, Decide Commit, Decide Abort
		"none":                 {ok, none, none, none, none, none, none, none},
		"run, empty":           {have, ok, ok, ok, ok, over, over, ok},
		"run":                  {have, ok, ok, ok, ok, over, over, ok},
		"ready, empty":         {have, over, over, over, over, ok, ok, ok},
		"ready":                {have, over, over, over, over, ok, ok, ok},
		"ready, local":         {have, over, over, over, over, have, ok, ok},
		"refused":              {have, over, over, over, over, over, over, ok},
		"committed":            {have, over, over, over, over, over, ok, over},
		"committed, local":     {have, over, over, over, over, over, ok, over},
		"aborted":              {have, over, over, over, over, over, over, ok},
		"aborted from run":     {have, over, over, over, over, over, over, ok},
		"aborted from refused": {have, over, over, over, over, over, over, ok},
		"aborted, local":       {have, over, over, over, over, over, over, ok},
	} {
		calls := [8]record{begin(1), read(1, 6), add(1, 6, 9), vote(1, 1), vote(1, 0), local(1), commit(1), abort(1)}
		for i, r := range calls {
			w := after(t, wayTo(1, name)...)
			w.gives(r, 0, want[i])
			w.locked()
		}
	}
}

// P10.1, Begin

func TestBegin(t *testing.T) {
	w := newTwin(t)
	w.works(begin(1))
	if p, is := w.s.Part(1); !is || !samePart(p, part.Part{State: part.Run}) {
		t.Errorf("Part(1) = %v, %t", p, is)
	}
	w.fails(begin(1), api.ErrHave)
	w.works(begin(2), add(1, 3, 5))
	w.fails(begin(1), api.ErrHave)
	w.fails(begin(2), api.ErrHave)
	w.locked()
}

// P10.1, Read

func TestReadOfEachKey(t *testing.T) {
	w := newTwin(t)
	w.works(begin(1), begin(2))
	for key := range 256 {
		if key < 64 {
			w.gives(read(1, uint8(key)), 0, api.OK)
		} else {
			w.fails(read(1, uint8(key)), api.ErrArg)
		}
	}
	w.works(read(2, 0), read(2, 63))
	w.fails(add(2, 0, 1), api.ErrLock)
	w.fails(add(2, 63, 1), api.ErrLock)
	w.locked()
}

// TestReadOfHeldKeys: which a key may be read that nobody holds, that others hold, or that one holds oneself.
func TestReadOfHeldKeys(t *testing.T) {
	w := after(t, sets(9, 3, 70)...)
	w.works(begin(1), begin(2), begin(3))
	w.gives(read(1, 3), 70, api.OK) // nobody holds it
	w.gives(read(1, 3), 70, api.OK) // oneself, shared
	w.gives(read(2, 3), 70, api.OK) // another one, shared
	w.gives(read(3, 3), 70, api.OK) // two others, shared
	w.works(add(1, 4, 8))
	w.gives(read(1, 4), 8, api.OK) // oneself, exclusive
	w.fails(read(2, 4), api.ErrLock)
	w.fails(add(2, 4, 1), api.ErrLock) // it is exclusive still, behind the Read
	w.works(vote(1, 1))
	w.fails(read(2, 4), api.ErrLock)
	w.works(commit(1))
	w.gives(read(2, 4), 8, api.OK)
	w.locked()
}

func TestReadTakesTheKeyShared(t *testing.T) {
	w := after(t, begin(1), begin(2))
	w.works(read(1, 3))
	w.fails(add(2, 3, 1), api.ErrLock)
	w.works(read(2, 3))
	w.fails(add(1, 3, 1), api.ErrLock)
	w.works(vote(1, 0), add(2, 3, 1))
	w.locked()
}

// TestReadSeesOwnAdds: of no, one and many Adds, on top of what the ledger has, and of no other key.
func TestReadSeesOwnAdds(t *testing.T) {
	for _, start := range numbers() {
		for _, by := range numbers() {
			w := after(t, sets(9, 3, start)...)
			w.works(begin(1))
			w.gives(read(1, 3), start, api.OK)
			w.works(add(1, 4, 1000), add(1, 3, by))
			w.gives(read(1, 3), start+by, api.OK)
			w.works(add(1, 3, by), add(1, 63, -1), add(1, 3, 1))
			w.gives(read(1, 3), start+by+by+1, api.OK)
			w.gives(read(1, 4), 1000, api.OK)
			w.gives(read(1, 63), -1, api.OK)
			if n := w.s.Get(3); n != start {
				t.Errorf("Get(3) = %d, want %d: no Add is in the ledger yet", n, start)
			}
		}
	}
}

func TestReadSeesFiftyAdds(t *testing.T) {
	w := after(t, sets(9, 3, 100)...)
	w.works(begin(1))
	for i := range 50 {
		w.works(add(1, 3, int64(i+1)))
	}
	w.gives(read(1, 3), 100+50*51/2, api.OK)
}

func TestReadWrapsAround(t *testing.T) {
	w := after(t, sets(9, 3, greatest)...)
	w.works(begin(1), add(1, 3, 1))
	w.gives(read(1, 3), least, api.OK)
	w.works(add(1, 3, -1))
	w.gives(read(1, 3), greatest, api.OK)
	w.works(add(1, 3, greatest))
	w.gives(read(1, 3), -2, api.OK)
	w.works(add(1, 5, least), add(1, 5, least))
	w.gives(read(1, 5), 0, api.OK)
}

// TestReadSeesNoOthersAdds: those of others are not in the ledger before they are committed.
func TestReadSeesNoOthersAdds(t *testing.T) {
	w := after(t, sets(9, 3, 100)...)
	w.works(begin(1), begin(2), add(1, 3, 5), vote(1, 0))
	w.gives(read(2, 3), 100, api.OK)
	w.works(vote(2, 1), abort(1), begin(3))
	w.gives(read(3, 3), 100, api.OK)
}

// P10.1, Add

func TestAddOfEachKey(t *testing.T) {
	w := newTwin(t)
	w.works(begin(1))
	for key := range 256 {
		if key == 32 {
			w.works(vote(1, 0), begin(2))
		}
		tx := 1 + min(key, 63)/32
		if key < 64 {
			w.works(add(tx, uint8(key), 1))
			w.gives(read(tx, uint8(key)), 1, api.OK)
		} else {
			w.fails(add(tx, uint8(key), 1), api.ErrArg)
		}
	}
	w.locked()
}

func TestAddOfEachNumber(t *testing.T) {
	for _, n := range numbers() {
		w := after(t, begin(1))
		w.works(add(1, 3, n))
		if p, _ := w.s.Part(1); !slices.Equal(p.Adds, deltas{{Key: 3, By: n}}) {
			t.Errorf("Add of %d: %v", n, p)
		}
		w.works(begin(2))
		w.fails(read(2, 3), api.ErrLock) // an Add of 0 takes the key, too
		w.works(vote(1, 1), commit(1))
		if got := w.s.Get(3); got != n {
			t.Errorf("Get(3) behind an Add of %d: %d", n, got)
		}
		w.locked()
	}
}

// TestAddOfHeldKeys: as TestReadOfHeldKeys, of exclusive locks.
func TestAddOfHeldKeys(t *testing.T) {
	w := after(t, begin(1), begin(2))
	w.works(add(1, 3, 1), add(1, 3, 2)) // nobody holds it; oneself, exclusive
	w.fails(add(2, 3, 1), api.ErrLock)
	w.works(read(1, 4), add(1, 4, 3)) // oneself, shared
	w.fails(read(2, 4), api.ErrLock)
	w.works(read(1, 5), read(2, 5))
	w.fails(add(1, 5, 1), api.ErrLock) // oneself and another one, shared
	w.fails(add(2, 5, 1), api.ErrLock)
	w.works(read(2, 6))
	w.fails(add(1, 6, 1), api.ErrLock) // another one, shared
	w.works(abort(2), add(1, 5, 1), add(1, 6, 1))
	w.locked()
}

// full is a transaction with fifty Adds of key 3.
func full(tx int) []record {
	l := []record{begin(tx)}
	for i := range 50 {
		l = append(l, add(tx, 3, int64(i)))
	}
	return l
}

// TestAddUntilFull: the fiftieth Add is done, and the one behind it takes no lock, nor makes one exclusive.
func TestAddUntilFull(t *testing.T) {
	w := newTwin(t)
	w.works(full(1)...)
	w.works(read(1, 5))
	for _, key := range []uint8{3, 4, 5} {
		w.fails(add(1, key, 1), api.ErrFull)
	}
	w.works(begin(2), read(2, 5), add(2, 4, 1))
	w.fails(read(2, 3), api.ErrLock)
	w.gives(read(1, 3), 50*49/2, api.OK)
	w.works(vote(1, 1), local(1), abort(1))
	w.locked()
}

// P10.1, Vote

func TestVote(t *testing.T) {
	for _, n := range []int64{1, -1, 2, 255, 256, 1 << 32, least, greatest} {
		w := after(t, wayTo(1, "run")...)
		w.works(begin(2), vote(1, n))
		if p, _ := w.s.Part(1); p.State != part.Ready {
			t.Errorf("Vote %d: %v", n, p)
		}
		w.fails(read(2, 3), api.ErrLock) // it keeps its locks
		w.fails(add(2, 5, 1), api.ErrLock)
		w.locked()
	}
	w := after(t, wayTo(1, "run")...)
	w.works(begin(2), vote(1, 0))
	if p, _ := w.s.Part(1); p.State != part.Refused || len(p.Adds) != 2 {
		t.Errorf("Vote 0: %v", p)
	}
	w.works(read(2, 3), add(2, 5, 1))
	w.gives(read(2, 4), 0, api.OK) // nothing was put to the ledger
	w.locked()
}

// P10.1, the locks that are free again

// TestFreed: all locks of the transaction are free, shared and exclusive ones, and none of another one.
func TestFreed(t *testing.T) {
	for name, end := range map[string][]record{
		"refuse": {vote(1, 0)},
		"local":  {vote(1, 1), local(1)},
		"commit": {vote(1, 1), commit(1)},
		"abort":  {abort(1)},
		"ready":  {vote(1, 1)},
	} {
		w := after(t, begin(1), begin(2), begin(3), add(1, 0, 1), add(2, 1, 1), read(1, 2), read(2, 2), read(1, 3), add(1, 4, 1), read(2, 5), read(1, 63))
		w.works(end...)
		for _, key := range []uint8{0, 3, 4, 63} {
			want := api.OK
			if name == "ready" {
				want = api.ErrLock
			}
			w.gives(add(3, key, 1), 0, want)
		}
		for _, key := range []uint8{1, 2, 5} {
			w.fails(add(3, key, 1), api.ErrLock)
		}
		w.locked()
	}
}

// P10.1, Local

func TestLocal(t *testing.T) {
	w := after(t, sets(9, 3, 100)...)
	w.works(wayTo(1, "ready")...)
	w.works(local(1))
	if a, b := w.s.Get(3), w.s.Get(4); a != 105 || b != -7 {
		t.Errorf("behind Local: %d, %d", a, b)
	}
	w.fails(local(1), api.ErrHave)
	if a, b := w.s.Get(3), w.s.Get(4); a != 105 || b != -7 {
		t.Errorf("behind Local again: %d, %d", a, b)
	}
	w.works(begin(2), add(2, 3, 1))
	w.gives(read(2, 3), 106, api.OK)
	w.locked()
}

// P10.1, Decide

func TestDecide(t *testing.T) {
	for _, c := range []struct {
		from       string
		n          int64
		key3, key4 int64
	}{
		{"ready", api.Commit, 105, 993},
		{"ready", api.Abort, 100, 1000},
		{"ready, local", api.Commit, 105, 993},
		{"ready, local", api.Abort, 100, 1000},
		{"run", api.Abort, 100, 1000},
		{"refused", api.Abort, 100, 1000},
	} {
		w := after(t, sets(8, 3, 100)...)
		w.works(sets(9, 4, 1000)...)
		w.works(wayTo(1, c.from)...)
		for range 3 { // the second time it changes nothing
			w.works(decide(1, c.n))
			if a, b := w.s.Get(3), w.s.Get(4); a != c.key3 || b != c.key4 {
				t.Errorf("%s, Decide %d: %d, %d", c.from, c.n, a, b)
			}
			w.fails(decide(1, api.Commit+api.Abort-c.n), api.ErrOver)
		}
		if p, _ := w.s.Part(1); p.State != part.Done || int64(p.Outcome) != c.n {
			t.Errorf("%s, Decide %d: %v", c.from, c.n, p)
		}
		w.locked()
	}
}

// TestDecideNoOutcome: a number that is not an outcome is none, however much of its lowest bits are.
func TestDecideNoOutcome(t *testing.T) {
	for _, x := range ways(1) {
		w := after(t, x.calls...)
		want := api.ErrArg
		if x.name == "none" {
			want = api.ErrNone
		}
		for _, n := range []int64{0, 3, 4, -1, -2, 256, 257, 258, 1<<32 + 1, 1<<32 + 2, -1<<32 + 1, least, least + 1, least + 2, greatest} {
			w.fails(decide(1, n), want)
		}
		w.locked()
	}
}

// TestLedgerWrapsAround: what is put wraps around, and comes back with its compensation.
func TestLedgerWrapsAround(t *testing.T) {
	for _, start := range numbers() {
		for _, by := range numbers() {
			w := after(t, sets(9, 3, start)...)
			w.works(begin(1), add(1, 3, by), add(1, 3, by), vote(1, 1), local(1))
			if n := w.s.Get(3); n != start+by+by {
				t.Errorf("%d and twice %d: %d", start, by, n)
			}
			w.works(abort(1))
			if n := w.s.Get(3); n != start {
				t.Errorf("%d and twice %d, compensated: %d", start, by, n)
			}
		}
	}
}

// TestCompensatedUnderOthers: what is compensated goes out of what others have put since, and what one reads changes with it.
func TestCompensatedUnderOthers(t *testing.T) {
	w := after(t, wayTo(1, "ready, local")...)
	w.works(begin(2), add(2, 3, 10))
	w.gives(read(2, 3), 15, api.OK)
	w.works(abort(1))
	w.gives(read(2, 3), 10, api.OK)
	w.works(vote(2, 1), commit(2))
	if n := w.s.Get(3); n != 10 {
		t.Errorf("Get(3) = %d", n)
	}
}

// R2: which error, where several apply

func TestFirstError(t *testing.T) {
	w := after(t, full(1)...)
	w.works(begin(2), add(2, 4, 1), begin(3), vote(3, 1), begin(4), vote(4, 1), commit(4))
	w.fails(record{Kind: 7, Tx: 5}, api.ErrArg)
	w.fails(record{Kind: 7, Tx: 1, Key: 64}, api.ErrArg)
	w.fails(read(1000, 64), api.ErrArg)
	w.fails(read(5, 64), api.ErrNone)
	w.fails(read(5, 4), api.ErrNone)
	w.fails(add(5, 64, 1), api.ErrNone)
	w.fails(add(5, 4, 1), api.ErrNone)
	w.fails(decide(5, 3), api.ErrNone)
	w.fails(read(3, 64), api.ErrOver)
	w.fails(read(3, 4), api.ErrOver)
	w.fails(add(3, 64, 1), api.ErrOver)
	w.fails(add(3, 4, 1), api.ErrOver)
	w.fails(add(4, 4, 1), api.ErrOver)
	w.fails(add(1, 64, 1), api.ErrArg)
	w.fails(add(1, 255, 1), api.ErrArg)
	w.fails(add(1, 4, 1), api.ErrLock)
	w.fails(add(1, 5, 1), api.ErrFull)
	w.fails(decide(4, 0), api.ErrArg)
	w.fails(decide(1, 3), api.ErrArg)
	w.locked()
}

// TestFirstErrorOfFullAndOver: a part of fifty Adds that no longer runs.
func TestFirstErrorOfFullAndOver(t *testing.T) {
	w := after(t, full(1)...)
	w.works(vote(1, 1))
	w.fails(add(1, 5, 1), api.ErrOver)
	w.fails(add(1, 64, 1), api.ErrOver)
}

// P10.2

func TestGet(t *testing.T) {
	w := after(t, sets(1, 0, 5)...)
	w.works(sets(2, 63, -6)...)
	w.works(sets(3, 31, greatest)...)
	w.works(begin(4), add(4, 7, 1))
	for key, want := range map[uint8]int64{0: 5, 63: -6, 31: greatest, 7: 0, 1: 0, 62: 0, 64: 0, 255: 0, 127: 0, 95: 0} {
		if n := w.s.Get(key); n != want {
			t.Errorf("Get(%d) = %d, want %d", key, n, want)
		}
	}
	w.locked() // Get takes no lock
}

func TestPart(t *testing.T) {
	w := newTwin(t)
	w.works(wayTo(0, "run")...)
	w.works(begin(999), vote(999, 0))
	for _, tx := range []int{math.MinInt, -1, 1, 2, 998, 1000, 1 << 20, math.MaxInt} {
		if p, is := w.s.Part(tx); is || !samePart(p, part.Part{}) {
			t.Errorf("Part(%d) = %v, %t", tx, p, is)
		}
	}
	if p, is := w.s.Part(0); !is || !samePart(p, part.Part{Adds: deltas{{Key: 3, By: 5}, {Key: 4, By: -7}}}) {
		t.Errorf("Part(0) = %v, %t", p, is)
	}
	if p, is := w.s.Part(999); !is || !samePart(p, part.Part{State: part.Refused}) {
		t.Errorf("Part(999) = %v, %t", p, is)
	}
}

// P10.3

// TestLog: the fields that a kind does not use are kept, and calls that return an error leave no record.
func TestLog(t *testing.T) {
	s := site.New()
	var want []record
	for _, c := range []struct {
		r record
		e api.Errno
	}{
		{record{site.Read, 1, 3, 0}, api.ErrNone},
		{record{site.Begin, 1, 255, least}, api.OK},
		{record{site.Begin, 1, 255, least}, api.ErrHave},
		{record{site.Begin, 2, 64, 77}, api.OK},
		{record{site.Begin, 1000, 3, 1}, api.ErrArg},
		{record{site.Read, 1, 3, greatest}, api.OK},
		{record{site.Read, 1, 3, -3}, api.OK},
		{record{site.Read, 1, 64, 0}, api.ErrArg},
		{record{site.Add, 1, 3, 5}, api.OK},
		{record{site.Add, 2, 3, 5}, api.ErrLock},
		{record{site.Add, 2, 4, 0}, api.OK},
		{record{site.Vote, 1, 200, -9}, api.OK},
		{record{site.Vote, 1, 200, -9}, api.ErrOver},
		{record{site.Vote, 2, 64, 0}, api.OK},
		{record{site.Local, 1, 99, 42}, api.OK},
		{record{site.Local, 1, 99, 42}, api.ErrHave},
		{record{site.Decide, 1, 128, 3}, api.ErrArg},
		{record{site.Decide, 1, 128, api.Abort}, api.OK},
		{record{site.Decide, 1, 63, api.Abort}, api.OK},
		{record{site.Decide, 1, 63, api.Commit}, api.ErrOver},
		{record{0, 1, 1, 1}, api.ErrArg},
	} {
		if _, e := s.Do(c.r); e != c.e {
			t.Errorf("%v: %d, want %d", c.r, e, c.e)
		}
		if c.e == api.OK {
			want = append(want, c.r)
		}
		if l := s.Log(); !slices.Equal(l, want) {
			t.Errorf("behind %v: Log() = %v, want %v", c.r, l, want)
		}
	}
	if x, e := site.Replay(want); e != api.OK || !slices.Equal(x.Log(), want) {
		t.Errorf("Replay: %d", e)
	}
}

func TestReplayOfNone(t *testing.T) {
	for _, l := range [][]record{nil, {}} {
		s, e := site.Replay(l)
		if s == nil || e != api.OK {
			t.Fatalf("Replay of no record: %v, %d", s, e)
		}
		w := &twin{t: t, s: s, m: newPlain()}
		w.seen()
		w.works(begin(1), add(1, 3, 5))
		w.locked()
	}
}

// long is a site's log in which there is every kind, of several transactions at a time.
func long() []record {
	return []record{
		begin(1), begin(2), add(1, 3, 5), read(2, 4), {site.Vote, 1, 9, -1}, begin(3), read(3, 4), {site.Local, 1, 70, 1},
		read(2, 3), add(3, 5, least), vote(2, 0), abort(1), add(3, 4, 8), vote(3, 1), begin(4), {site.Decide, 3, 200, api.Commit}, read(4, 5), abort(1),
	}
}

// TestReplayOfEachBeginning: it is a log, too; the site goes on as the one of which it is the log.
func TestReplayOfEachBeginning(t *testing.T) {
	for n := range len(long()) + 1 {
		w := after(t, long()[:n]...)
		s, e := site.Replay(long()[:n])
		if e != api.OK {
			t.Fatalf("Replay of %d records: %d", n, e)
		}
		w.s = s
		w.seen()
		w.do(long()[n:]...)
		w.seen()
		w.locked()
	}
}

// TestReplayWithAnError: at each place, whatever the error is.
func TestReplayWithAnError(t *testing.T) {
	for i := range len(long()) + 1 {
		for _, r := range []record{
			{Kind: 0, Tx: 1}, {Kind: 7, Tx: 1}, begin(-1), begin(1000), read(900, 3), add(900, 3, 1), vote(900, 1), local(900), decide(900, 1), decide(1, 0),
		} {
			s, e := site.Replay(slices.Insert(long(), i, r))
			if s != nil || e != api.ErrForm {
				t.Errorf("Replay with %v ahead of record %d: %v, %d", r, i, s, e)
			}
		}
	}
	for _, l := range [][]record{
		{begin(1), begin(1)},
		{begin(1), begin(2), add(1, 3, 1), read(2, 3)},
		{begin(1), begin(2), read(1, 3), add(2, 3, 1)},
		{begin(1), local(1)},
		{begin(1), vote(1, 1), local(1), local(1)},
		{begin(1), vote(1, 1), commit(1), abort(1)},
		{begin(1), read(1, 64)},
		append(full(1), add(1, 3, 1)),
	} {
		if s, e := site.Replay(l[:len(l)-1]); s == nil || e != api.OK {
			t.Errorf("Replay of %v: %d", l[:len(l)-1], e)
		}
		if s, e := site.Replay(l); s != nil || e != api.ErrForm {
			t.Errorf("Replay of %v: %d", l, e)
		}
	}
}

// R6: memory

func TestPartsAreApart(t *testing.T) {
	for _, x := range ways(1) {
		w := after(t, x.calls...)
		a, _ := w.s.Part(1)
		b, _ := w.s.Part(1)
		wrecked(a.Adds)
		if !samePart(b, x.is) {
			t.Errorf("%s: two answers of Part share memory: %v", x.name, b)
		}
		wrecked(b.Adds)
		w.seen()
		for kind := 1; kind <= 6; kind++ {
			w.do(record{Kind: kind, Tx: 1, Key: 3, N: 1})
		}
		w.seen()
	}
}

// wrecked writes to all that a slice reaches, also behind its end.
func wrecked(l deltas) {
	l = l[:cap(l)]
	for i := range l {
		l[i] = api.Delta{Key: 99, By: 99}
	}
}

// TestPartStaysWhileTheSiteGoesOn: a part that was returned is not changed by later calls.
func TestPartStaysWhileTheSiteGoesOn(t *testing.T) {
	w := after(t, begin(1))
	var l []part.Part
	for i := range 50 {
		w.works(add(1, 3, int64(i)))
		p, _ := w.s.Part(1)
		l = append(l, p)
	}
	w.works(vote(1, 1), local(1), abort(1))
	for i, p := range l {
		if p.State != part.Run || len(p.Adds) != i+1 {
			t.Fatalf("the part of %d Adds is now %v", i+1, p)
		}
		for k, d := range p.Adds {
			if d != (api.Delta{Key: 3, By: int64(k)}) {
				t.Fatalf("the part of %d Adds is now %v", i+1, p)
			}
		}
	}
}

func TestLogsAreApart(t *testing.T) {
	w := newTwin(t)
	for _, r := range long() {
		w.do(r)
		a, b := w.s.Log(), w.s.Log()
		for i := range a[:cap(a)] {
			a[:cap(a)][i] = record{Kind: 99}
		}
		if !slices.Equal(b, w.m.log) {
			t.Fatalf("two answers of Log share memory: %v", b)
		}
		for i := range b[:cap(b)] {
			b[:cap(b)][i] = record{Kind: 98}
		}
		w.seen()
	}
	w.locked()
}

// TestReplayKeepsNothing: neither are the given records changed, nor does the site change with them.
func TestReplayKeepsNothing(t *testing.T) {
	given := append(make([]record, 0, 100), long()...)
	a, _ := site.Replay(given)
	b, _ := site.Replay(given)
	w := after(t, long()...)
	more := []record{begin(5), add(4, 6, 1), vote(4, 1)}
	for _, r := range more {
		a.Do(r)
	}
	if !slices.Equal(given, long()) || given[:len(given)+1][len(given)] != (record{}) {
		t.Errorf("what was given is now %v", given[:len(given)+1])
	}
	for i := range given {
		given[i] = record{Kind: 99}
	}
	seenAs(t, b, w.m, w.calls)
	w.do(more...)
	seenAs(t, a, w.m, w.calls)
}
