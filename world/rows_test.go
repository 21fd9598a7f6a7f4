package world_test

import (
	"math"
	"slices"
	"testing"

	"waystation/api"
	"waystation/lease"
	"waystation/site"
	"waystation/world"
)

// Long rows of steps of all kinds, with lost, doubled and late letters, hand-offs and crashes; and short rows in every order.

// mix is how often a kind is chosen, and of what.
type mix struct {
	weights [15]int
	txs     []int
	spans   []int64
	ticks   []int64
}

func mixes() []mix {
	usual := [15]int{0, 3, 7, 5, 5, 2, 3, 1, 18, 1, 2, 2, 3, 3, 1}
	few := mix{usual, []int{7, 9, 500}, []int64{30, 60}, []int64{0, 1, 2}}
	many := mix{usual, []int{0, 1, 2, 3, 7, 9, 10, 100, 256, 500, 998, 999}, []int64{20, 80, 300, 1 << 20}, []int64{0, 1, 3}}
	handed := mix{[15]int{0, 2, 4, 4, 4, 2, 8, 2, 20, 2, 3, 1, 2, 4, 1}, []int{0, 1, 7, 9, 256, 999}, []int64{50, 200}, []int64{0, 1, 2}}
	lost := mix{[15]int{0, 3, 6, 5, 6, 3, 4, 3, 12, 8, 8, 1, 4, 3, 2}, []int{0, 1, 2, 3, 4, 5, 6, 7}, []int64{50, 100, 1 << 20}, []int64{0, 1, 1 << 20}}
	jammed := mix{[15]int{0, 3, 6, 5, 9, 5, 6, 4, 9, 1, 9, 1, 7, 3, 1}, []int{0, 1, 2, 3, 4, 5, 6, 7, 8, 9}, []int64{50, 500}, []int64{0, 1}}
	return []mix{few, many, handed, lost, jammed}
}

func pick[T any](from *source, l ...T) T {
	return l[from.next(len(l))]
}

// kind is one of them, by their weights, and now and then none.
func (x mix) kind(from *source) int {
	if from.next(200) == 0 {
		return pick(from, -1, 0, 15, 256+world.Begin)
	}
	sum := 0
	for _, n := range x.weights {
		sum += n
	}
	n := from.next(sum)
	for what, w := range x.weights {
		if n < w {
			return what
		}
		n -= w
	}
	return 0
}

// any is a step that is likely to do something.
func (x mix) any(from *source, w *world.World) step {
	s := step{What: x.kind(from), Tx: pick(from, x.txs...), A: uint8(from.next(3)), B: uint8(from.next(3))}
	switch s.What {
	case world.Begin:
		s.A, s.B, s.N = uint8(from.next(256)), uint8(from.next(256)), pick(from, x.spans...)
	case world.Work:
		s.Kind, s.Key, s.N = pick(from, site.Read, site.Add, site.Add, site.Add, site.Local), uint8(from.next(6)), pick(from, 1, -1, 5, int64(from.next(1000)), math.MaxInt64, math.MinInt64)
	case world.Ship:
		s.N = int64(from.next(9)) - 4
		if from.next(4) > 0 {
			s.N |= 1
		}
	case world.Speak, world.More:
		s.B = agentOf(from, w, s.A)
	case world.Arrive, world.Lose, world.Twice:
		s.A, s.Key = letterOf(from, w)
	case world.Tick:
		s.N = pick(from, x.ticks...)
	case world.Attach:
		s.B = pick(from, agentOf(from, w, s.A), s.B, s.B, 3, 255)
	case world.Crash:
		s.A = uint8(from.next(256))
	}
	return x.wrong(from, s)
}

// wrong is the step, and now and then one with a field that is none of those that there are.
func (x mix) wrong(from *source, s step) step {
	switch from.next(150) {
	case 0:
		s.A = pick[uint8](from, 3, 7, 8, 11, 17, 255)
	case 1:
		s.B = pick[uint8](from, 3, 7, 8, 255)
	case 2:
		s.Tx = pick(from, -1, 1000, math.MinInt, math.MaxInt)
	case 3:
		s.Kind = pick(from, 0, 1, 4, 6, 7)
	case 4:
		s.Key = pick[uint8](from, 63, 64, 100, 255)
	case 5:
		s.N = pick[int64](from, -1, 0, 1<<20+1, math.MinInt64, math.MaxInt64)
	}
	return s
}

// agentOf is mostly the station that holds the agency for a mobile.
func agentOf(from *source, w *world.World, m uint8) uint8 {
	if from.next(8) > 0 {
		for s := range uint8(3) {
			if w.Side(s, m).Lease.State == lease.Held {
				return s
			}
		}
	}
	return uint8(from.next(3))
}

// letterOf is mostly one that there is.
func letterOf(from *source, w *world.World) (to, at uint8) {
	if from.next(30) == 0 {
		return uint8(from.next(18)), uint8(from.next(3))
	}
	first := from.next(theChair + 1)
	for i := range theChair + 1 {
		to := uint8((first + i) % (theChair + 1))
		if n := w.Under(to); n > 0 {
			return to, uint8(from.next(n))
		}
	}
	return uint8(first), 0
}

func TestLongRows(t *testing.T) {
	for i, x := range mixes() {
		t.Run(string(rune('a'+i)), func(t *testing.T) {
			t.Parallel()
			errs, outcomes, epochs, fullest := map[[2]int]int{}, map[int]int{}, 0, 0
			for seed := range 60 {
				from := source(1000*i + seed)
				v := newWitness(t, x.txs...)
				for n := range 400 {
					v.step(x.any(&from, v.w))
					if n%40 == 0 {
						v.same()
					}
					fullest = max(fullest, v.w.Under(theChair))
				}
				v.ends(&from)
				for _, outcome := range v.outcomes {
					outcomes[outcome]++
				}
				for pair, n := range v.errs {
					errs[pair] += n
				}
				for m := range v.held {
					epochs += len(v.held[m]) - 1
				}
			}
			if outcomes[api.Commit] < 5 || outcomes[api.Abort] < 20 || epochs < 50 {
				t.Errorf("the outcomes %v, and %d hand-offs", outcomes, epochs)
			}
			if x.txs[1] == 1 && len(x.txs) == 10 && fullest != most {
				t.Errorf("at most %d letters", fullest)
			}
			cameTo(t, errs)
		})
	}
}

// cameTo holds that the rows came to what there is to come to.
func cameTo(t *testing.T, errs map[[2]int]int) {
	t.Helper()
	for what, l := range map[int][]errno{
		world.Begin:  {api.OK, api.ErrArg, api.ErrHave},
		world.Work:   {api.OK, api.ErrNone, api.ErrLock, api.ErrOver, api.ErrArg},
		world.Ship:   {api.OK, api.ErrNone, api.ErrAway, api.ErrOver},
		world.Speak:  {api.OK, api.ErrNone},
		world.More:   {api.OK, api.ErrAway},
		world.Offer:  {api.OK, api.ErrArg, api.ErrAway},
		world.Again:  {api.OK},
		world.Arrive: {api.OK, api.ErrNone, api.ErrOld, api.ErrOver, api.ErrAway},
		world.Lose:   {api.OK},
		world.Twice:  {api.OK},
		world.Tick:   {api.OK},
		world.Ask:    {api.OK, api.ErrAway},
		world.Attach: {api.OK},
		world.Crash:  {api.OK},
		0:            {api.ErrArg},
		15:           {api.ErrArg},
	} {
		for _, e := range l {
			if errs[[2]int{what, int(e)}] < 5 {
				t.Errorf("steps of the kind %d returned %d: %d times", what, e, errs[[2]int{what, int(e)}])
			}
		}
	}
}

// TestLateLetters: each letter is doubled, and what was left over arrives when all is decided; it changes nothing any more.
func TestLateLetters(t *testing.T) {
	for seed := range 60 {
		from := source(seed)
		x := mixes()[seed%5]
		x.weights[world.Lose], x.weights[world.Twice] = 0, 0
		v := newWitness(t, x.txs...)
		var late []letter
		for range 300 {
			s := x.any(&from, v.w)
			if s.What == world.Arrive && int(s.Key) < v.w.Under(s.A) {
				late = append(late, lettersOf(t, v.w, s.A)[s.Key])
			}
			v.step(s)
		}
		v.ends(&from)
		known := v.done
		for _, i := range from.order(len(late)) {
			v.forge(late[i].From, late[i].To, late[i].B)
			v.step(arrive(late[i].To, uint8(v.w.Under(late[i].To)-1)))
			if v.w.Under(late[i].To) > 50 { // letters to the stations and the mobiles are answered
				v.arriveAll(&from)
			}
		}
		v.arriveAll(&from)
		v.allKnown()
		for m := range known {
			if len(known[m]) != len(v.done[m]) {
				t.Errorf("seed %d: %v, and now %v", seed, known[m], v.done[m])
			}
		}
	}
}

// TestFullCargo: long rows of one mobile with more than 50 transactions; of the votes that do not fit into its cargo, the chair hears nothing.
func TestFullCargo(t *testing.T) {
	var txs []int
	for i := range 70 {
		txs = append(txs, i*14)
	}
	for seed := range 4 {
		from := source(seed)
		v := newWitness(t, txs...)
		for _, i := range from.order(70) {
			v.step(begin(txs[i], 1, 1000, 0))
			v.step(add(0, txs[i], uint8(i%64), int64(i+1)))
		}
		for n, i := range from.order(70) {
			e := v.step(ship(0, txs[i], int64(from.next(5))))
			if want := []errno{api.OK, api.ErrFull}[min(n/50, 1)]; e != want {
				t.Errorf("seed %d, the %d. Ship: %d", seed, n, e)
			}
			if n%20 == 10 {
				v.handOff(0, uint8(n/20%3), uint8((n/20+1)%3), n/20+1)
				v.step(attach(0, uint8((n/20+1)%3)))
			}
			v.step(step{What: world.Work, A: 0, Tx: txs[i], Kind: site.Local})
		}
		v.step(speak(0, 0))
		v.step(speak(0, 1))
		v.step(speak(0, 2))
		if v.ballots(0) != 50 || v.w.Under(16) != 50 {
			t.Errorf("%d ballots, %d letters", v.ballots(0), v.w.Under(16))
		}
		v.arriveAll(&from)
		v.ends(&from)
	}
}

// every calls do with each order of l.
func every[T any](l []T, do func([]T)) {
	var rest func(n int)
	rest = func(n int) {
		if n == len(l) {
			do(l)
			return
		}
		for i := n; i < len(l); i++ {
			l[n], l[i] = l[i], l[n]
			rest(n + 1)
			l[n], l[i] = l[i], l[n]
		}
	}
	rest(0)
}

// TestEveryOrder: all orders of seven steps, behind a few others, and then the end.
func TestEveryOrder(t *testing.T) {
	for name, c := range map[string]struct{ first, steps []step }{
		"votes":    {[]step{begin(7, 3, 10, 1), add(0, 7, 1, 5)}, []step{ship(0, 7, 1), speak(0, 0), arrive(16, 0), local(0, 7), tick(10), more(1, 1, 7), arrive(16, 0)}},
		"refusal":  {[]step{begin(7, 3, 10, 0), add(0, 7, 1, 5), ship(0, 7, 1), local(0, 7)}, []step{ship(1, 7, 0), speak(0, 0), speak(1, 1), arrive(16, 0), ask(0, 7), arrive(16, 0), arrive(8, 0)}},
		"hand-off": {[]step{begin(7, 1, 10, 0), add(0, 7, 1, 5), offer(0, 1)}, []step{ship(0, 7, 1), arrive(1, 0), arrive(0, 0), again(0, 0), arrive(1, 0), speak(0, 0), speak(0, 1)}},
		"two":      {[]step{begin(7, 1, 10, 0), offer(0, 1), offer(0, 2)}, []step{arrive(1, 0), arrive(2, 0), arrive(0, 0), arrive(0, 0), ship(0, 7, 1), again(0, 0), arrive(2, 0)}},
		"answers":  {[]step{begin(7, 3, 10, 0), add(1, 7, 1, 5), ship(0, 7, 1), ship(1, 7, 1), speak(0, 0), speak(1, 1)}, []step{arrive(16, 0), arrive(16, 0), ask(1, 7), attach(1, 9), arrive(9, 0), twice(16, 0), tick(10)}},
		"crashes":  {[]step{begin(7, 3, 10, 0), add(1, 7, 1, 5), ship(1, 7, 1), local(1, 7), speak(1, 1)}, []step{arrive(16, 0), ship(0, 7, 0), speak(0, 0), crash(), ask(1, 7), arrive(16, 0), arrive(9, 0)}},
	} {
		t.Run(name, func(t *testing.T) {
			t.Parallel()
			every(slices.Clone(c.steps), func(l []step) {
				v := newWitness(t, 7)
				for _, s := range slices.Concat(c.first, l) {
					v.step(s)
				}
				from := source(7)
				v.ends(&from)
			})
		})
	}
}

// TestCrashAnywhere: a crash put in at any place changes no answer (the plain world does nothing when it crashes), and neither do many of them.
func TestCrashAnywhere(t *testing.T) {
	for seed := range 5 {
		from := source(seed)
		x := mixes()[seed]
		x.weights[world.Crash] = 0
		var row []step
		v := newWitness(t, x.txs...)
		for range 60 {
			s := x.any(&from, v.w)
			row = append(row, s)
			v.step(s)
		}
		for at := range len(row) + 1 {
			y := newTwin(t)
			y.txs = x.txs
			for i, s := range row {
				if i == at || at == len(row) {
					y.do(crash())
				}
				y.do(s)
			}
			y.same()
		}
	}
}

// TestSameSteps: the same steps have the same answers, in another world too.
func TestSameSteps(t *testing.T) {
	for seed := range 10 {
		from := source(seed)
		x := mixes()[seed%5]
		a, b := world.New(), world.New()
		for range 500 {
			s := x.any(&from, a)
			n, e := a.Do(s)
			if gotN, gotE := b.Do(s); gotN != n || gotE != e {
				t.Fatalf("%+v: %d, %d, and in another world %d, %d", s, n, e, gotN, gotE)
			}
		}
		for m := range uint8(3) {
			if !slices.Equal(a.Site(m).Log(), b.Site(m).Log()) {
				t.Errorf("seed %d: the logs of %d", seed, m)
			}
		}
		for to := range uint8(17) {
			if !slices.EqualFunc(lettersOf(t, a, to), lettersOf(t, b, to), sameLetter) {
				t.Errorf("seed %d: the letters to %d", seed, to)
			}
		}
	}
}
