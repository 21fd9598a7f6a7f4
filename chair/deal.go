package chair

import (
	"cmp"
	"slices"

	"waystation/api"
	"waystation/tally"
	"waystation/terms"
)

// run does a call that is in range, but for its record in the log.
func (c *Chair) run(r Record) (int, api.Errno) {
	if r.Kind == Tick {
		return c.tick(r.Now), api.OK
	}
	d, e := c.after(r)
	if e != api.OK {
		return 0, e
	}
	c.deals[r.Tx] = d
	if isOpen(d) {
		return 0, api.OK
	}
	return 1, api.OK
}

// tick aborts the deals whose deadline is reached, and returns their number.
func (c *Chair) tick(now int64) int {
	over := keysOf(c.deals, func(d Deal) bool { return isOpen(d) && terms.Over(d.Terms, now) })
	for _, tx := range over {
		d := c.deals[tx]
		d.Outcome = api.Abort
		c.deals[tx] = d
	}
	return len(over)
}

// after returns what a call makes of the deal of its transaction.
// It is apart from the chair until the call is known to return OK, so that a call with an error changes nothing, however far it got.
func (c *Chair) after(r Record) (Deal, api.Errno) {
	d, present := c.deals[r.Tx]
	switch {
	case r.Kind == Begin && present:
		return d, api.ErrHave
	case r.Kind == Begin:
		return begun(r)
	case !present:
		return d, api.ErrNone
	case !isOpen(d):
		return d, api.ErrOver
	case r.Kind == Vote:
		return voted(d, r)
	}
	return extended(d, r)
}

func begun(r Record) (Deal, api.Errno) {
	// A Who of 0 is the list of nobody, which tally.New refuses with the error that is asked for.
	votes, e := tally.New(mobiles(r.Who))
	if e != api.OK {
		return Deal{}, e
	}
	limits, e := terms.New(r.Now, r.Span, r.Cap)
	return Deal{Tally: votes, Terms: limits, Outcome: api.Open}, e
}

func voted(d Deal, r Record) (Deal, api.Errno) {
	if terms.Over(d.Terms, r.Now) {
		return d, api.ErrLate
	}
	votes, e := tally.Put(d.Tally, r.Who, r.Epoch, r.Vote)
	d.Tally, d.Outcome = votes, tally.Outcome(votes)
	return d, e
}

func extended(d Deal, r Record) (Deal, api.Errno) {
	heard, e := tally.Hear(d.Tally, r.Who, r.Epoch)
	if e != api.OK {
		return d, e
	}
	later, e := terms.Extend(d.Terms, r.Now)
	d.Tally, d.Terms = heard, later
	return d, e
}

func isOpen(d Deal) bool {
	return d.Outcome == api.Open
}

// mobiles are those whose bits are set.
func mobiles(bits uint8) []uint8 {
	var l []uint8
	for id := range uint8(api.MaxNode) {
		if bits&(1<<id) != 0 {
			l = append(l, id)
		}
	}
	return l
}

// keysOf returns the keys of the wanted values, in increasing order.
func keysOf[K cmp.Ordered, V any](m map[K]V, wanted func(V) bool) []K {
	var l []K
	for k, v := range m {
		if wanted(v) {
			l = append(l, k)
		}
	}
	slices.Sort(l)
	return l
}
