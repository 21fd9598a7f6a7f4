package world_test

import (
	"testing"

	"waystation/agent"
	"waystation/api"
	"waystation/lease"
	"waystation/note"
	"waystation/part"
	"waystation/site"
	"waystation/terms"
	"waystation/world"
)

// P20.4 to P20.8, by what there is to see of a world after each step. The plain world has no part in what is held here against what.

// witness is a twin whose steps are looked at; it remembers what it saw.
type witness struct {
	*twin
	begun    map[int]int64              // when, by transactions
	outcomes map[int]int                // as the chair decided
	votes    [3]map[int]int             // as the mobiles' sites gave them, by transactions: 1 is Yes, 2 No
	adds     [3]map[int]map[uint8]int64 // what was added at the sites, by transactions and keys
	done     [3]map[int]int             // the outcomes that the sites know
	held     [3]map[int]uint8           // who had the agencies, by epochs
	errs     map[[2]int]int             // how often a kind returned an error
}

func newWitness(t *testing.T, txs ...int) *witness {
	t.Helper()
	v := &witness{twin: newTwin(t), begun: map[int]int64{}, outcomes: map[int]int{}, errs: map[[2]int]int{}}
	v.txs = txs
	for m := range 3 {
		v.votes[m], v.adds[m], v.done[m], v.held[m] = map[int]int{}, map[int]map[uint8]int64{}, map[int]int{}, map[int]uint8{}
	}
	v.look()
	return v
}

// step lets a step happen, and looks.
func (v *witness) step(s step) errno {
	v.listen(s)
	_, e := v.do(s)
	v.errs[[2]int{s.What, int(e)}]++
	v.remember(s, e)
	v.look()
	return e
}

// listen holds what is about to arrive at the chair: the agents of a mobile speak in epochs in which they had the agency, and for votes that the mobile's site gave.
func (v *witness) listen(s step) {
	if s.What != world.Arrive || s.A != theChair || int(s.Key) >= v.w.Under(theChair) {
		return
	}
	l := lettersOf(v.t, v.w, theChair)[s.Key]
	n, e := note.Decode(l.B)
	switch {
	case e != api.OK || l.To != theChair:
		v.fail("the letter %+v", l)
	case n.Kind == note.Vote && v.votes[n.Mobile][n.Tx] != n.Value:
		v.fail("the vote %+v, and the site gave %d", n, v.votes[n.Mobile][n.Tx])
	case n.Kind == note.Vote || n.Kind == note.More:
		if by, is := v.held[n.Mobile][n.Epoch]; !is || by != l.From {
			v.fail("the letter %+v, and the agency was held by %v", l, v.held[n.Mobile])
		}
	case n.Kind != note.Ask || l.From != 8+n.Mobile:
		v.fail("the letter %+v", l)
	}
}

// remember takes in what a step did by its own words.
func (v *witness) remember(s step, e errno) {
	switch {
	case s.What == world.Begin && e == api.OK:
		v.begun[s.Tx] = v.w.Now()
	case s.What == world.Work && e == api.OK && s.Kind == site.Add:
		if v.adds[s.A][s.Tx] == nil {
			v.adds[s.A][s.Tx] = map[uint8]int64{}
		}
		v.adds[s.A][s.Tx][s.Key] += s.N
	case s.What == world.Ship && (e == api.OK || e == api.ErrFull):
		v.votes[s.A][s.Tx] = 2
		if s.N%2 != 0 {
			v.votes[s.A][s.Tx] = 1
		}
	}
}

func (v *witness) look() {
	for _, tx := range v.txs {
		v.lookAtDeal(tx)
	}
	for m := range uint8(3) {
		v.lookAtAgency(m)
		decided := true
		for _, tx := range v.txs {
			decided = v.lookAtPart(m, tx) && decided
		}
		if decided {
			v.lookAtNumbers(m)
		}
	}
}

// lookAtDeal: an outcome stays (P20.4); Commit asks for a Yes of all sites, and each vote is the site's (P20.5); each epoch was one in which the agency was held (P20.6); and how late it may end (P20.8).
func (v *witness) lookAtDeal(tx int) {
	d, is := v.w.Chair().Deal(tx)
	at, begun := v.begun[tx]
	if is != begun {
		v.fail("Deal(%d) = %+v, %t", tx, d, is)
	}
	if !is {
		return
	}
	if last := terms.Last(d.Terms); last > at+1<<22 {
		v.fail("Deal(%d), begun at %d, may last until %d", tx, at, last)
	}
	if was, known := v.outcomes[tx]; known && was != d.Outcome {
		v.fail("the outcome of %d was %d, and is %d", tx, was, d.Outcome)
	}
	if d.Outcome != api.Open {
		v.outcomes[tx] = d.Outcome
	}
	for m, in := range d.Tally.Who {
		if m >= 3 || !in {
			if in || d.Tally.Votes[m] != 0 || d.Tally.Epochs[m] != 0 {
				v.fail("Deal(%d) = %+v, %t", tx, d, is)
			}
			continue
		}
		if vote := d.Tally.Votes[m]; vote != 0 && vote != v.votes[m][tx] || d.Outcome == api.Commit && v.votes[m][tx] != 1 {
			v.fail("Deal(%d) = %+v, and the site of %d voted %d", tx, d, m, v.votes[m][tx])
		}
		if epoch := d.Tally.Epochs[m]; epoch != 0 {
			if _, was := v.held[m][epoch]; !was {
				v.fail("Deal(%d) = %+v, and the agency for %d was held by %v", tx, d, m, v.held[m])
			}
		}
	}
}

// lookAtPart: what a site knows, the chair decided, and it stays (P20.4). It reports whether the part is decided, or there is none.
func (v *witness) lookAtPart(m uint8, tx int) bool {
	p, is := v.w.Site(m).Part(tx)
	if was, known := v.done[m][tx]; known && (p.State != part.Done || p.Outcome != was) {
		v.fail("at the site %d, the outcome of %d was %d, and the part is %+v", m, tx, was, p)
	}
	switch {
	case !is:
		return true
	case p.State == part.Done:
		if p.Outcome != v.outcomes[tx] {
			v.fail("at the site %d, the part %d is %+v, and the chair decided %d", m, tx, p, v.outcomes[tx])
		}
		v.done[m][tx] = p.Outcome
		return true
	case p.State != []int{part.Run, part.Ready, part.Refused}[v.votes[m][tx]]:
		v.fail("at the site %d, the part %d is %+v, and its vote was %d", m, tx, p, v.votes[m][tx])
	}
	return false
}

// lookAtAgency: at most one station has it, and in an epoch always the same one (P20.6).
func (v *witness) lookAtAgency(m uint8) {
	agents := 0
	for s := range uint8(3) {
		own := v.w.Side(s, m).Lease
		if own.State != lease.Held {
			continue
		}
		agents++
		if by, known := v.held[m][own.Epoch]; known && by != s {
			v.fail("the agency for %d in the epoch %d was that of %d, and is that of %d", m, own.Epoch, by, s)
		}
		v.held[m][own.Epoch] = s
	}
	if agents > 1 {
		v.fail("%d stations hold the agency for %d", agents, m)
	}
}

// lookAtNumbers: those of a site whose parts are all decided are the sums of what was committed (P20.7).
func (v *witness) lookAtNumbers(m uint8) {
	var want [64]int64
	for tx, l := range v.adds[m] {
		for key, n := range l {
			if v.done[m][tx] == api.Commit {
				want[key] += n
			}
		}
	}
	for key := range want {
		if n := v.w.Site(m).Get(uint8(key)); n != want[key] {
			v.fail("at the site %d, the number of %d is %d, and the sum %d", m, key, n, want[key])
		}
	}
}

// arriveAll lets all letters arrive, and those that are sent by that, in any order.
func (v *witness) arriveAll(from *source) {
	for {
		var ends []uint8
		for to := range uint8(theChair + 1) {
			if v.w.Under(to) > 0 {
				ends = append(ends, to)
			}
		}
		if len(ends) == 0 {
			return
		}
		to := ends[from.next(len(ends))]
		v.step(arrive(to, uint8(from.next(v.w.Under(to)))))
	}
}

// ends is P20.8: from here on the time goes on far enough, and each mobile is at a station, and asks for each transaction.
func (v *witness) ends(from *source) {
	for range 4 {
		if v.step(tick(1<<20)) != api.OK {
			v.fail("a Tick that is not OK")
		}
	}
	if l := v.w.Chair().Open(); len(l) > 0 {
		v.fail("after all deadlines, there are open %v", l)
	}
	for m := range uint8(3) {
		if _, is := v.w.At(m); !is {
			v.step(attach(m, uint8(from.next(3))))
		}
	}
	v.arriveAll(from)
	for n, i := range from.order(3 * len(v.txs)) {
		v.step(ask(uint8(i%3), v.txs[i/3]))
		if n%most == most-1 { // there is no room for more
			v.arriveAll(from)
		}
	}
	v.arriveAll(from)
	v.allKnown()
	v.same()
}

// allKnown: everything is decided, and known to the sites.
func (v *witness) allKnown() {
	for _, tx := range v.txs {
		d, is := v.w.Chair().Deal(tx)
		if is && d.Outcome == api.Open {
			v.fail("%d is open", tx)
		}
		for m := range uint8(3) {
			if p, in := v.w.Site(m).Part(tx); in != (is && d.Tally.Who[m]) || in && (p.State != part.Done || p.Outcome != d.Outcome) {
				v.fail("at the site %d, the part %d is %+v, and the deal %+v", m, tx, p, d)
			}
		}
	}
}

// ballots is how many votes there are in the cargo of the agency for a mobile, if it is held.
func (v *witness) ballots(m uint8) int {
	for s := range uint8(3) {
		if side := v.w.Side(s, m); side.Lease.State == lease.Held {
			l, _ := agent.Unpack(side.Cargo)
			return len(l)
		}
	}
	return 0
}

// source makes numbers that are the same in each run.
type source uint64

func (s *source) next(below int) int {
	*s = *s*6364136223846793005 + 1442695040888963407
	return int(uint64(*s) >> 33 % uint64(below))
}

// order is the numbers below n, in any order.
func (s *source) order(n int) []int {
	l := make([]int, n)
	for i := range l {
		j := s.next(i + 1)
		l[i], l[j] = l[j], i
	}
	return l
}
