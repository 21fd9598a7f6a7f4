package world_test

import (
	"fmt"
	"slices"
	"strings"
	"testing"

	"waystation/api"
	"waystation/lease"
	"waystation/site"
)

// All states that a world can come to by so many of some steps, within limits: what each step does in each of them, and what P20.4 to P20.8 say of it.

// walk is the steps that may happen, and a limit of the states that are gone on from.
type walk struct {
	first []step
	steps []step
	goOn  func(*plain) bool
	deep  int // how many steps there are at most
	least int // how many states there are at least
}

// place is a state that the plain world can come to, and the shortest way there.
type place struct {
	way []step
	p   *plain
}

func (k walk) places() []place {
	p := newPlain()
	for _, s := range k.first {
		p.do(s)
	}
	l := []place{{k.first, p}}
	known := map[string]bool{stateOf(p): true}
	for i := 0; i < len(l); i++ {
		if len(l[i].way) == len(k.first)+k.deep || !k.goOn(l[i].p) {
			continue
		}
		for _, s := range k.steps {
			p := l[i].p.clone()
			p.do(s)
			if state := stateOf(p); !known[state] {
				known[state] = true
				l = append(l, place{append(slices.Clone(l[i].way), s), p})
			}
		}
	}
	return l
}

// stateOf is all that an answer may hang on.
func stateOf(p *plain) string {
	var b strings.Builder
	fmt.Fprint(&b, p.sides, p.at, p.now)
	for _, tx := range []int{0, 7, 9} {
		d, is := p.chair.Deal(tx)
		fmt.Fprint(&b, is, d.Tally.Votes, d.Tally.Epochs, d.Terms, d.Outcome)
		for m := range 3 {
			part, is := p.sites[m].Part(tx)
			fmt.Fprint(&b, is, part)
		}
	}
	for _, l := range p.to {
		for _, x := range l {
			fmt.Fprintf(&b, "%d %x", x.From, x.B)
		}
		b.WriteByte('|')
	}
	return b.String()
}

// few reports whether there are at most so many letters to the stations, the mobiles and the chair.
func few(p *plain, stations, mobiles, chair int) bool {
	for to, l := range p.to {
		switch {
		case to < 8 && len(l) > stations, to >= 8 && to < 16 && len(l) > mobiles, to == 16 && len(l) > chair:
			return false
		}
	}
	return true
}

func latest(p *plain) int {
	n := 0
	for _, l := range p.sides {
		for _, side := range l {
			n = max(n, side.Lease.Epoch)
		}
	}
	return n
}

func walks() map[string]walk {
	return map[string]walk{
		"one mobile": {
			first: []step{begin(7, 1, 10, 1), add(0, 7, 1, 5)},
			steps: []step{ship(0, 7, 1), ship(0, 7, 0), local(0, 7), speak(0, 0), more(0, 0, 7), ask(0, 7), arrive(16, 0), arrive(16, 1), lose(16, 0), twice(16, 0), arrive(8, 0), lose(8, 0), tick(10), attach(0, 255), attach(0, 0), crash(), begin(7, 1, 10, 0)},
			goOn:  func(p *plain) bool { return few(p, 0, 1, 2) && p.now <= 20 },
			deep:  9,
			least: 4000,
		},
		"two mobiles": {
			first: []step{add(0, 7, 1, 5), attach(2, 3)},
			steps: []step{begin(7, 3, 10, 0), ship(0, 7, 1), ship(1, 7, 1), ship(1, 7, 2), local(1, 7), speak(0, 0), speak(1, 1), ask(0, 7), ask(1, 7), arrive(16, 0), arrive(16, 1), arrive(8, 0), arrive(9, 0), tick(10), crash(), add(0, 7, 1, 5)},
			goOn: func(p *plain) bool {
				part, _ := p.sites[0].Part(7)
				return few(p, 0, 1, 2) && p.now <= 10 && len(part.Adds) <= 1
			},
			deep:  7,
			least: 4000,
		},
		"hand-offs": {
			first: []step{begin(7, 1, 10, 3), begin(9, 1, 10, 0)},
			steps: []step{ship(0, 7, 1), ship(0, 9, 0), offer(0, 0), offer(0, 1), offer(0, 2), again(0, 0), again(0, 1), arrive(0, 0), arrive(1, 0), arrive(2, 0), arrive(0, 1), arrive(1, 1), lose(1, 0), twice(1, 0), attach(0, 1), speak(0, 1), more(0, 0, 7), crash()},
			goOn:  func(p *plain) bool { return few(p, 2, 0, 1) && latest(p) <= 2 },
			deep:  8,
			least: 4000,
		},
		"late votes": {
			first: []step{begin(7, 1, 10, 1), ship(0, 7, 1)},
			steps: []step{speak(0, 0), speak(0, 1), more(0, 0, 7), more(0, 1, 7), offer(0, 1), offer(0, 0), again(0, 0), arrive(0, 0), arrive(1, 0), arrive(16, 0), arrive(16, 1), lose(0, 0), tick(10), ask(0, 7), arrive(8, 0), crash()},
			goOn:  func(p *plain) bool { return few(p, 1, 1, 2) && latest(p) <= 3 && p.now <= 20 },
			deep:  8,
			least: 4000,
		},
		"two transactions": {
			first: []step{begin(7, 1, 10, 0), begin(9, 1, 20, 0)},
			steps: []step{add(0, 7, 1, 5), add(0, 9, 1, 6), ship(0, 7, 1), ship(0, 9, 1), ship(0, 9, 0), local(0, 7), local(0, 9), speak(0, 0), arrive(16, 0), arrive(16, 1), ask(0, 7), ask(0, 9), arrive(8, 0), tick(10), crash()},
			goOn: func(p *plain) bool {
				a, _ := p.sites[0].Part(7)
				b, _ := p.sites[0].Part(9)
				return few(p, 0, 1, 2) && p.now <= 20 && len(a.Adds) <= 1 && len(b.Adds) <= 1
			},
			deep:  6,
			least: 4000,
		},
	}
}

func TestAllStates(t *testing.T) {
	for name, k := range walks() {
		t.Run(name, func(t *testing.T) {
			t.Parallel()
			all := k.places()
			if len(all) < k.least {
				t.Errorf("%d states", len(all))
			}
			for i, at := range all {
				allSteps(t, at, k.steps)
				from := source(i)
				v := witnessAt(t, at.way)
				v.ends(&from)
			}
			t.Logf("%d states", len(all))
		})
	}
}

func witnessAt(t *testing.T, way []step) *witness {
	t.Helper()
	v := newWitness(t, 7, 9)
	for _, s := range way {
		v.step(s)
	}
	return v
}

// allSteps lets each step happen in a state. What returns an error, and takes no letter, changes nothing, so that the next one may happen in the same world.
func allSteps(t *testing.T, at place, steps []step) {
	t.Helper()
	v := witnessAt(t, at.way)
	for _, s := range steps {
		e := v.step(s)
		if e == api.OK || stateOf(v.p) != stateOf(at.p) {
			v.same()
			v = witnessAt(t, at.way)
		}
	}
	v.same()
}

// TestWalksComeToAll: what is to be found among the states of the walks.
func TestWalksComeToAll(t *testing.T) {
	found := map[string]int{}
	for _, k := range walks() {
		for _, at := range k.places() {
			d, _ := at.p.chair.Deal(7)
			found[fmt.Sprint("outcome ", d.Outcome)]++
			found[fmt.Sprint("used ", d.Terms.Used)]++
			found[fmt.Sprint("epoch ", d.Tally.Epochs[0])]++
			agents := 0
			for _, l := range at.p.sides {
				if l[0].Lease.State == lease.Held {
					agents++
				}
			}
			found[fmt.Sprint("agents ", agents)]++
			if p, _ := at.p.sites[0].Part(7); p.Local && p.Outcome == api.Abort {
				found["compensated"]++
			}
			if l := at.p.sites[0].Log(); slices.ContainsFunc(l, func(r site.Record) bool { return r.Kind == site.Decide }) {
				found["decided"]++
			}
		}
	}
	for _, what := range []string{"outcome 0", "outcome 1", "outcome 2", "used 0", "used 1", "epoch 0", "epoch 1", "epoch 2", "agents 0", "agents 1", "compensated", "decided"} {
		if found[what] < 30 {
			t.Errorf("%s: %d times", what, found[what])
		}
	}
	if found["agents 2"] > 0 {
		t.Errorf("%v", found)
	}
}
