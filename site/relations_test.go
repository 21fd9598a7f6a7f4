package site_test

import (
	"fmt"
	"math/rand"
	"slices"
	"testing"

	"waystation/api"
	"waystation/part"
	"waystation/site"
)

// callsOf are calls of every kind, for each of some transactions and keys.
func callsOf(txs []int, keys []uint8, numbers []int64) []record {
	var l []record
	for _, tx := range txs {
		l = append(l, begin(tx), vote(tx, 1), vote(tx, 0), local(tx), commit(tx), abort(tx), decide(tx, 0))
		for _, key := range keys {
			l = append(l, read(tx, key))
			for _, n := range numbers {
				l = append(l, add(tx, key, n))
			}
		}
	}
	return l
}

// walk is what is gone through: all that some transactions can come to by some calls, with no more than most Adds each.
type walk struct {
	txs   []int
	keys  []uint8
	calls []record
	most  int
}

// two do all that there is to do with two keys.
func two() walk {
	txs, keys := []int{0, 999}, []uint8{0, 63}
	calls := callsOf(txs, keys, []int64{greatest})
	return walk{txs, keys, append(calls, record{Kind: 7, Tx: 0}, read(0, 64), add(999, 64, 1)), 1}
}

// three have one key, and the third of them reads it alone, as there would be too many states otherwise.
func three() walk {
	txs, keys := []int{1, 2, 3}, []uint8{5}
	calls := callsOf(txs[:2], keys, []int64{least})
	return walk{txs, keys, append(calls, begin(3), read(3, 5), vote(3, 0)), 1}
}

// place is a state that the plain site can come to, and the shortest way there.
type place struct {
	way []record
	m   *plain
}

func (x walk) places() []place {
	l := []place{{nil, newPlain()}}
	known := map[string]bool{newPlain().state(x.txs, x.keys): true}
	for i := 0; i < len(l); i++ {
		for _, r := range x.calls {
			m := l[i].m.clone()
			if _, e := m.do(r); e != api.OK || len(m.parts[r.Tx].Adds) > x.most {
				continue
			}
			if state := m.state(x.txs, x.keys); !known[state] {
				known[state] = true
				l = append(l, place{append(slices.Clone(l[i].way), r), m})
			}
		}
	}
	return l
}

// P10.1 to P10.3, in all states

// TestEachCallInAllStates: what it returns, and what there is to see behind it.
func TestEachCallInAllStates(t *testing.T) {
	for _, x := range []walk{two(), three()} {
		for _, at := range x.places() {
			for _, r := range x.calls {
				w := after(t, at.way...)
				w.do(r)
				w.same(x)
				w.sums(x.txs...)
			}
		}
	}
}

// same is seen, of what the calls of a walk are about.
func (w *twin) same(x walk) {
	w.t.Helper()
	for _, key := range append(x.keys[:len(x.keys):len(x.keys)], 4, 64) {
		if n := w.s.Get(key); n != w.m.numbers[key] {
			w.t.Fatalf("%v: Get(%d) = %d, want %d", w.calls, key, n, w.m.numbers[key])
		}
	}
	for _, tx := range append(x.txs[:len(x.txs):len(x.txs)], 4, 1000) {
		p, is := w.s.Part(tx)
		want, wanted := w.m.parts[tx]
		if is != wanted || !samePart(p, want) {
			w.t.Fatalf("%v: Part(%d) = %v, %t, want %v, %t", w.calls, tx, p, is, want, wanted)
		}
	}
	if l := w.s.Log(); !slices.Equal(l, w.m.log) {
		w.t.Fatalf("%v: Log() = %v, want %v", w.calls, l, w.m.log)
	}
}

// TestErrorsChangeNothing: with all calls that return an error put in at every step, the site goes on as without them, its locks among it.
func TestErrorsChangeNothing(t *testing.T) {
	for _, x := range []walk{two(), three()} {
		for _, at := range x.places() {
			w := newTwin(t)
			for _, r := range at.way {
				w.wrongCalls(x.calls)
				w.do(r)
			}
			w.wrongCalls(x.calls)
			w.same(x)
			w.locked()
		}
	}
}

// wrongCalls does the calls that return an error now.
func (w *twin) wrongCalls(calls []record) {
	w.t.Helper()
	for _, r := range calls {
		if _, e := w.m.clone().do(r); e != api.OK {
			w.is(r, 0, e)
		}
	}
	w.calls = slices.Clone(w.m.log) // what went wrong would be most of what a failure tells
}

// P10.4

// TestAgainInAllStates: the site of the log tells the same, and goes on in the same way.
func TestAgainInAllStates(t *testing.T) {
	for _, x := range []walk{two(), three()} {
		for _, at := range x.places() {
			w := after(t, at.way...)
			goOnAlike(t, after(t, at.way...).s, w.again(), x.calls)
			w.s = w.again()
			w.same(x)
			w.locked()
		}
	}
}

// again returns the site of the log.
func (w *twin) again() *site.Site {
	w.t.Helper()
	s, e := site.Replay(w.s.Log())
	if s == nil || e != api.OK {
		w.t.Fatalf("%v: Replay of the Log: %v, %d", w.calls, s, e)
	}
	return s
}

// goOnAlike does the same calls on two sites, and checks that both return the same.
func goOnAlike(t *testing.T, a, b *site.Site, calls []record) {
	t.Helper()
	for _, r := range calls {
		n, e := a.Do(r)
		if gotN, gotE := b.Do(r); gotN != n || gotE != e {
			t.Fatalf("%v: %v: %d, %d, and replayed %d, %d", a.Log(), r, n, e, gotN, gotE)
		}
	}
	if !slices.Equal(a.Log(), b.Log()) {
		t.Fatalf("the logs: %v, and replayed %v", a.Log(), b.Log())
	}
	for key := range uint8(65) {
		if a.Get(key) != b.Get(key) {
			t.Fatalf("%v: key %d: %d, and replayed %d", a.Log(), key, a.Get(key), b.Get(key))
		}
	}
}

// TestLongRuns: twenty transactions over some keys, in runs of calls of all kinds; the site is rebuilt now and then.
func TestLongRuns(t *testing.T) {
	for seed := range int64(100) {
		source := rand.New(rand.NewSource(seed))
		w := newTwin(t)
		for step := range 300 {
			w.do(anyCall(source))
			if step%50 != 0 {
				continue
			}
			w.seen()
			w.sums(allTxs()...)
			if again := w.again(); source.Intn(2) == 0 {
				w.s = again
			}
		}
		w.seen()
		w.locked()
	}
}

// anyCall is a call about one of twenty transactions, and of one of a dozen keys; the kinds that end a transaction come more seldom than the others.
func anyCall(source *rand.Rand) record {
	kinds := []int{site.Begin, site.Begin, site.Begin, site.Read, site.Read, site.Add, site.Add, site.Add, site.Add, site.Vote, site.Local, site.Local, site.Local, site.Decide}
	r := record{
		Kind: kinds[source.Intn(len(kinds))],
		Tx:   source.Intn(20) * 52,
		Key:  uint8(source.Intn(12) * 6),
		N:    []int64{0, 1, 1, 2, 2, -1, least, greatest}[source.Intn(8)],
	}
	if r.Kind == site.Add {
		r.N += int64(source.Uint64() >> source.Intn(64))
	}
	return r
}

// P10.5

func allTxs() []int {
	var l []int
	for tx := range 1000 {
		l = append(l, tx)
	}
	return l
}

// sums checks the ledger against the Effects of the parts of all transactions that there may be.
func (w *twin) sums(txs ...int) {
	w.t.Helper()
	var want [256]int64
	for _, tx := range txs {
		if p, is := w.s.Part(tx); is {
			for _, d := range part.Effect(p) {
				want[d.Key] += d.By
			}
		}
	}
	for key := range 256 {
		if n := w.s.Get(uint8(key)); n != want[key] {
			w.t.Fatalf("%v: Get(%d) = %d, the sum of the Effects is %d", w.calls, key, n, want[key])
		}
	}
}

// TestSumInEveryOrder: the calls of two transactions in every order, and behind each call the sum of their Effects.
func TestSumInEveryOrder(t *testing.T) {
	start := slices.Concat(sets(9, 3, greatest), []record{begin(1), begin(2)})
	calls := []record{
		add(1, 3, 5), add(1, 4, least), vote(1, 1), local(1), commit(1), abort(1),
		add(2, 3, 7), vote(2, 1), local(2), commit(2), abort(2),
	}
	found := map[string]bool{}
	everyOrder(calls, 4, func(l []record) {
		w := after(t, start...)
		for _, r := range l {
			w.do(r)
		}
		w.sums(1, 2, 9) // behind each call, since every beginning is an order, too
		found[fmt.Sprint(w.s.Get(3), w.s.Get(4))] = true
	})
	for _, deep := range [][]record{
		{add(1, 3, 5), add(1, 4, least), vote(1, 1), local(1), commit(1), abort(1)},
		{add(1, 3, 5), vote(1, 1), local(1), abort(1), commit(1), add(2, 3, 7)},
		{add(2, 3, 7), vote(2, 1), commit(2), add(1, 4, least), vote(1, 1), local(1)},
	} {
		permutations(deep, func(l []record) {
			w := after(t, start...)
			for _, r := range l {
				w.do(r)
				w.sums(1, 2, 9)
			}
			found[fmt.Sprint(w.s.Get(3), w.s.Get(4))] = true
		})
	}
	if len(found) < 4 {
		t.Errorf("the orders led to these numbers only: %v", found)
	}
}

// everyOrder gives all lists of at most n of the calls.
func everyOrder(calls []record, n int, give func([]record)) {
	var more func(l []record)
	more = func(l []record) {
		give(l)
		if len(l) == n {
			return
		}
		for _, r := range calls {
			more(append(l[:len(l):len(l)], r))
		}
	}
	more(nil)
}

// permutations gives the calls in all orders, each of them once.
func permutations(calls []record, give func([]record)) {
	var more func(done, left []record)
	more = func(done, left []record) {
		if len(left) == 0 {
			give(done)
		}
		for i, r := range left {
			more(append(done[:len(done):len(done)], r), slices.Delete(slices.Clone(left), i, i+1))
		}
	}
	more(nil, calls)
}

// P10.6

// TestApart: what 1 has read stays while others do all that they may, with parts of which none was committed locally before it read.
func TestApart(t *testing.T) {
	for _, own := range [][]record{
		nil, {add(1, 3, 1000)}, {add(1, 4, 1), add(1, 3, -1), add(1, 4, least)},
	} {
		start := slices.Concat(sets(9, 3, 70), sets(8, 4, -7), []record{begin(1), read(1, 3), read(1, 4)}, own)
		calls := []record{
			begin(2), add(2, 3, 5), add(2, 4, 6), add(2, 5, 1), read(2, 3), vote(2, 1), vote(2, 0), local(2), commit(2), abort(2),
		}
		everyOrder(calls, 4, func(l []record) {
			w := after(t, start...)
			a, b := w.reads(3), w.reads(4)
			w.do(l...)
			w.stay(a, b)
		})
		// These were at work on the keys ahead of it.
		for _, with := range [][]record{
			{begin(2), begin(3), read(2, 3), read(2, 4), add(3, 5, 9), vote(3, 1)},
			{begin(2), begin(3), add(2, 5, 7), read(3, 4), read(2, 3), vote(2, 1), local(2)},
			{begin(2), begin(3), vote(2, 0), add(3, 6, 1), vote(3, 1), abort(3)},
		} {
			all := callsOf([]int{2, 3}, []uint8{3, 4}, []int64{5})
			everyOrder(all, 2, func(l []record) {
				w := after(t, slices.Concat(sets(9, 3, 70), sets(8, 4, -7), with, []record{begin(1), read(1, 3), read(1, 4)})...)
				w.do(own...)
				a, b := w.reads(3), w.reads(4)
				w.do(l...)
				w.stay(a, b)
			})
		}
	}
}

// reads is what the transaction 1 reads.
func (w *twin) reads(key uint8) int64 {
	w.t.Helper()
	n, e := w.s.Do(read(1, key))
	if e != api.OK {
		w.t.Fatalf("%v: Read of key %d: %d", w.calls, key, e)
	}
	return n
}

func (w *twin) stay(a, b int64) {
	w.t.Helper()
	if x, y := w.reads(3), w.reads(4); x != a || y != b {
		w.t.Fatalf("%v: 1 reads %d and %d, and has read %d and %d", w.calls, x, y, a, b)
	}
}

// TestApartInLongRuns: all that any running transaction has read is read again behind each call; it changes by its own Adds, and by what is compensated.
func TestApartInLongRuns(t *testing.T) {
	for seed := range int64(100) {
		source := rand.New(rand.NewSource(seed))
		s := site.New()
		known := map[[2]int]int64{} // by transaction and key
		for step := range 300 {
			r := anyCall(source)
			ahead, _ := s.Part(r.Tx)
			n, e := s.Do(r)
			if e == api.OK {
				expect(known, r, n, ahead)
			}
			for at, want := range known {
				if n, e := s.Do(read(at[0], uint8(at[1]))); n != want || e != api.OK {
					t.Fatalf("run %d, step %d, %v: %d reads key %d: %d, %d, want %d", seed, step, r, at[0], at[1], n, e, want)
				}
			}
		}
	}
}

// expect takes a call into what is known to be read.
func expect(known map[[2]int]int64, r record, n int64, ahead part.Part) {
	at := [2]int{r.Tx, int(r.Key)}
	switch r.Kind {
	case site.Read:
		known[at] = n
	case site.Add:
		if _, is := known[at]; is {
			known[at] += r.N
		}
	case site.Vote, site.Decide: // it runs no longer
		for key := range 64 {
			delete(known, [2]int{r.Tx, key})
		}
	}
	if r.Kind == site.Decide && r.N == api.Abort && ahead.Local && ahead.State == part.Ready {
		for _, d := range ahead.Adds {
			for other := range known {
				if other[1] == int(d.Key) {
					known[other] -= d.By
				}
			}
		}
	}
}
