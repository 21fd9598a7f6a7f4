package site

import (
	"waystation/api"
	"waystation/ledger"
	"waystation/lock"
	"waystation/part"
)

// turn is all that a call may change: the part of its transaction, the locks and the ledger; and what it reads.
// It is apart from the site until the call is known to return OK, so that a call with an error changes nothing, however far it got.
type turn struct {
	own    part.Part
	locks  lock.Locks
	ledger ledger.Ledger
	seen   int64
}

// after returns what a call makes of the site.
func (s *Site) after(r Record) (turn, api.Errno) {
	own, present := s.parts[r.Tx]
	now := turn{own: own, locks: s.locks, ledger: s.ledger}
	switch {
	case r.Kind == Begin:
		return now.begin(present)
	case !present:
		return now, api.ErrNone
	}
	switch r.Kind {
	case Read:
		return now.read(r)
	case Add:
		return now.add(r)
	case Vote:
		return now.vote(r)
	case Local:
		return now.local(r)
	}
	return now.decide(r)
}

func (t turn) begin(present bool) (turn, api.Errno) {
	if present {
		return t, api.ErrHave
	}
	t.own = part.Part{State: part.Run}
	return t, api.OK
}

func (t turn) read(r Record) (turn, api.Errno) {
	t, e := t.hold(r, false)
	t.seen = ledger.Get(t.ledger, r.Key) + added(t.own, r.Key)
	return t, e
}

func (t turn) add(r Record) (turn, api.Errno) {
	t, e := t.hold(r, true)
	if e != api.OK {
		return t, e
	}
	t.own, e = part.Add(t.own, api.Delta{Key: r.Key, By: r.N})
	return t, e
}

func (t turn) vote(r Record) (turn, api.Errno) {
	own, e := part.Vote(t.own, r.N != 0)
	t.own = own
	if own.State == part.Refused {
		t.locks = lock.Free(t.locks, r.Tx)
	}
	return t, e
}

func (t turn) local(r Record) (turn, api.Errno) {
	own, changes, e := part.Local(t.own)
	if e != api.OK {
		return t, e
	}
	t.own = own
	return t.settle(r.Tx, changes)
}

func (t turn) decide(r Record) (turn, api.Errno) {
	own, changes, e := part.Decide(t.own, outcome(r.N))
	if e != api.OK {
		return t, e
	}
	t.own = own
	return t.settle(r.Tx, changes)
}

// hold takes the lock of a key for a transaction that is running.
func (t turn) hold(r Record, write bool) (turn, api.Errno) {
	if t.own.State != part.Run {
		return t, api.ErrOver
	}
	locks, e := lock.Take(t.locks, r.Tx, r.Key, write)
	t.locks = locks
	return t, e
}

// settle puts changes to the ledger, and frees the locks that kept the others from it.
func (t turn) settle(tx int, changes []api.Delta) (turn, api.Errno) {
	l, e := ledger.Put(t.ledger, changes)
	t.ledger = l
	t.locks = lock.Free(t.locks, tx)
	return t, e
}

// added returns by how much a part is to change the number of a key.
func added(p part.Part, key uint8) int64 {
	var sum int64
	for _, d := range p.Adds {
		if d.Key == key {
			sum += d.By
		}
	}
	return sum
}

// outcome compares ahead of it converts: where an int has 32 bits, a large number could become an outcome.
func outcome(n int64) int {
	if n == api.Commit || n == api.Abort {
		return int(n)
	}
	return api.Open
}
