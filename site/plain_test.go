package site_test

import (
	"fmt"
	"maps"
	"slices"
	"strings"
	"testing"

	"waystation/api"
	"waystation/part"
	"waystation/site"
)

// plain does what the chapter says in the plainest way, apart from the layers below.
type plain struct {
	parts   map[int]part.Part
	holders map[uint8]map[int]bool // by key and transaction, whether it is exclusive
	numbers [256]int64
	log     []site.Record
}

func newPlain() *plain {
	return &plain{parts: map[int]part.Part{}, holders: map[uint8]map[int]bool{}}
}

func (m *plain) clone() *plain {
	c := &plain{maps.Clone(m.parts), maps.Clone(m.holders), m.numbers, slices.Clone(m.log)}
	for key, holders := range c.holders {
		c.holders[key] = maps.Clone(holders)
	}
	return c
}

// do is P10.1, each error at its place.
func (m *plain) do(r site.Record) (int64, api.Errno) {
	if r.Kind < 1 || r.Kind > 6 || r.Tx < 0 || r.Tx > 999 {
		return 0, api.ErrArg
	}
	n, e := m.kind(r)
	if e == api.OK {
		m.log = append(m.log, r)
	}
	return n, e
}

func (m *plain) kind(r site.Record) (int64, api.Errno) {
	p, is := m.parts[r.Tx]
	if r.Kind == site.Begin {
		if is {
			return 0, api.ErrHave
		}
		m.parts[r.Tx] = part.Part{}
		return 0, api.OK
	}
	if !is {
		return 0, api.ErrNone
	}
	switch r.Kind {
	case site.Read:
		return m.read(r, p)
	case site.Add:
		return 0, m.add(r, p)
	case site.Vote:
		return 0, m.vote(r, p)
	case site.Local:
		return 0, m.local(r, p)
	}
	return 0, m.decide(r, p)
}

// mayTake tells the error with which a lock is refused.
func (m *plain) mayTake(r site.Record, write bool) api.Errno {
	if r.Key > 63 {
		return api.ErrArg
	}
	for tx, exclusive := range m.holders[r.Key] {
		if tx != r.Tx && (exclusive || write) {
			return api.ErrLock
		}
	}
	return api.OK
}

func (m *plain) take(r site.Record, write bool) {
	if m.holders[r.Key] == nil {
		m.holders[r.Key] = map[int]bool{}
	}
	m.holders[r.Key][r.Tx] = m.holders[r.Key][r.Tx] || write
}

func (m *plain) free(tx int) {
	for _, holders := range m.holders {
		delete(holders, tx)
	}
}

func (m *plain) read(r site.Record, p part.Part) (int64, api.Errno) {
	if p.State != part.Run {
		return 0, api.ErrOver
	}
	if e := m.mayTake(r, false); e != api.OK {
		return 0, e
	}
	m.take(r, false)
	n := m.numbers[r.Key]
	for _, d := range p.Adds {
		if d.Key == r.Key {
			n += d.By
		}
	}
	return n, api.OK
}

func (m *plain) add(r site.Record, p part.Part) api.Errno {
	if p.State != part.Run {
		return api.ErrOver
	}
	if e := m.mayTake(r, true); e != api.OK {
		return e
	}
	if len(p.Adds) == 50 {
		return api.ErrFull
	}
	m.take(r, true)
	p.Adds = append(slices.Clone(p.Adds), api.Delta{Key: r.Key, By: r.N})
	m.parts[r.Tx] = p
	return api.OK
}

func (m *plain) vote(r site.Record, p part.Part) api.Errno {
	if p.State != part.Run {
		return api.ErrOver
	}
	p.State = part.Ready
	if r.N == 0 {
		p.State = part.Refused
		m.free(r.Tx)
	}
	m.parts[r.Tx] = p
	return api.OK
}

func (m *plain) local(r site.Record, p part.Part) api.Errno {
	if p.State != part.Ready {
		return api.ErrOver
	}
	if p.Local {
		return api.ErrHave
	}
	p.Local = true
	m.parts[r.Tx] = p
	m.apply(p.Adds, 1)
	m.free(r.Tx)
	return api.OK
}

func (m *plain) decide(r site.Record, p part.Part) api.Errno {
	commit := r.N == api.Commit
	switch {
	case !commit && r.N != api.Abort:
		return api.ErrArg
	case p.State == part.Done && int64(p.Outcome) == r.N:
		return api.OK
	case p.State == part.Done || commit && p.State != part.Ready:
		return api.ErrOver
	case commit && !p.Local:
		m.apply(p.Adds, 1)
	case !commit && p.Local:
		m.apply(p.Adds, -1)
	}
	p.State, p.Outcome = part.Done, int(r.N)
	m.parts[r.Tx] = p
	m.free(r.Tx)
	return api.OK
}

func (m *plain) apply(l []api.Delta, sign int64) {
	for _, d := range l {
		m.numbers[d.Key] += sign * d.By
	}
}

// state tells the parts and the locks among a few transactions and keys; what a site has in its ledger follows from its parts.
func (m *plain) state(txs []int, keys []uint8) string {
	var b strings.Builder
	for _, tx := range txs {
		p, is := m.parts[tx]
		fmt.Fprintf(&b, "%d %t %v", tx, is, p)
		for _, key := range keys {
			exclusive, holds := m.holders[key][tx]
			fmt.Fprintf(&b, " %t %t", holds, exclusive)
		}
	}
	return b.String()
}

// locks tells for each key whether nobody holds it, or somebody shared or exclusive: 0, 1, 2.
func (m *plain) locks() [64]int {
	var l [64]int
	for key := range l {
		for _, exclusive := range m.holders[uint8(key)] {
			l[key] = 1
			if exclusive {
				l[key] = 2
			}
		}
	}
	return l
}

// twin is a site and the plain one, on which the same is done.
type twin struct {
	t     *testing.T
	s     *site.Site
	m     *plain
	calls []site.Record
}

func newTwin(t *testing.T) *twin {
	t.Helper()
	s := site.New()
	if s == nil {
		t.Fatal("New() = nil")
	}
	return &twin{t: t, s: s, m: newPlain()}
}

// after returns a twin on which some calls were done.
func after(t *testing.T, calls ...site.Record) *twin {
	t.Helper()
	w := newTwin(t)
	w.do(calls...)
	return w
}

// do checks what calls return.
func (w *twin) do(calls ...site.Record) {
	w.t.Helper()
	for _, r := range calls {
		n, e := w.m.do(r)
		w.is(r, n, e)
	}
}

// is checks what a call returns; the plain one did it already.
func (w *twin) is(r site.Record, n int64, e api.Errno) {
	w.t.Helper()
	w.calls = append(w.calls, r)
	if gotN, gotE := w.s.Do(r); gotN != n || gotE != e {
		w.t.Fatalf("%v: %d, %d, want %d, %d", w.calls, gotN, gotE, n, e)
	}
}

// gives checks what one call returns, against numbers that are told here and not by the plain one alone.
func (w *twin) gives(r site.Record, n int64, e api.Errno) {
	w.t.Helper()
	if plainN, plainE := w.m.do(r); plainN != n || plainE != e {
		w.t.Fatalf("%v behind %v: the test itself is at odds: %d, %d and %d, %d", r, w.calls, plainN, plainE, n, e)
	}
	w.is(r, n, e)
	w.seen()
}

func (w *twin) works(calls ...site.Record) {
	w.t.Helper()
	for _, r := range calls {
		w.gives(r, 0, api.OK)
	}
}

func (w *twin) fails(r site.Record, e api.Errno) {
	w.t.Helper()
	w.gives(r, 0, e)
}

// seen checks all that Get, Part and Log tell.
func (w *twin) seen() {
	w.t.Helper()
	seenAs(w.t, w.s, w.m, w.calls)
}

func seenAs(t *testing.T, s *site.Site, m *plain, calls []site.Record) {
	t.Helper()
	for key := range 256 {
		if n := s.Get(uint8(key)); n != m.numbers[key] {
			t.Fatalf("%v: Get(%d) = %d, want %d", calls, key, n, m.numbers[key])
		}
	}
	for tx := -1; tx <= 1000; tx++ {
		p, is := s.Part(tx)
		want, wanted := m.parts[tx]
		if is != wanted || !samePart(p, want) {
			t.Fatalf("%v: Part(%d) = %v, %t, want %v, %t", calls, tx, p, is, want, wanted)
		}
	}
	if l := s.Log(); !slices.Equal(l, m.log) {
		t.Fatalf("%v: Log() = %v, want %v", calls, l, m.log)
	}
}

func samePart(a, b part.Part) bool {
	return a.State == b.State && a.Local == b.Local && a.Outcome == b.Outcome && slices.Equal(a.Adds, b.Adds)
}

// prober and the one ahead of it are transactions that no test uses but to find out about locks.
const prober = 998

// locked checks of every key whether nobody holds it, or somebody shared or exclusive. The site is used up by that.
func (w *twin) locked() {
	w.t.Helper()
	w.s.Do(begin(prober))
	w.s.Do(begin(prober - 1))
	for i, want := range w.m.locks() {
		key, tx := uint8(i), prober-i/32 // two, as one may have no more than 50 Adds
		got := 0
		if _, e := w.s.Do(read(tx, key)); e == api.ErrLock {
			got = 2
		} else if _, e := w.s.Do(add(tx, key, 0)); e == api.ErrLock {
			got = 1
		} else if e != api.OK {
			w.t.Fatalf("%v: Add of key %d by a new transaction: %d", w.calls, key, e)
		}
		if got != want {
			w.t.Fatalf("%v: key %d is held as %d, want %d", w.calls, key, got, want)
		}
	}
}
