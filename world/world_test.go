package world_test

import (
	"fmt"
	"math"
	"slices"
	"testing"

	"waystation/air"
	"waystation/api"
	"waystation/chair"
	"waystation/hand"
	"waystation/lease"
	"waystation/note"
	"waystation/part"
	"waystation/site"
	"waystation/world"
)

// What the package has, the initial world, and worlds that New did not create.

var (
	_ func() *world.World                               = world.New
	_ func(*world.World, world.Step) (int64, api.Errno) = (*world.World).Do
	_ func(*world.World) *chair.Chair                   = (*world.World).Chair
	_ func(*world.World, uint8) *site.Site              = (*world.World).Site
	_ func(w *world.World, s, m uint8) hand.Side        = (*world.World).Side
	_ func(*world.World, uint8) (uint8, bool)           = (*world.World).At
	_ func(*world.World) int64                          = (*world.World).Now
	_ func(*world.World, uint8) int                     = (*world.World).Under
	_ [1]struct{}                                       = [world.Many - 2]struct{}{}
	_                                                   = world.Step{1, 2, 3, 4, 5, 6, 7}
	_ struct{ A, B, Key uint8 }                         = struct{ A, B, Key uint8 }{world.Step{}.A, world.Step{}.B, world.Step{}.Key}
	_ struct{ What, Tx, Kind int }                      = struct{ What, Tx, Kind int }{world.Step{}.What, world.Step{}.Tx, world.Step{}.Kind}
	_ int64                                             = world.Step{}.N
	_ interface {
		Turn(uint8, int, uint16, byte) api.Errno
	} = (*world.World)(nil) // the network's calls are the world's
	_ interface {
		Take(uint8, int) (air.Letter, api.Errno)
	} = (*world.World)(nil)
)

func TestKinds(t *testing.T) {
	kinds := []int{world.Begin, world.Work, world.Ship, world.Speak, world.More, world.Offer, world.Again, world.Arrive, world.Lose, world.Twice, world.Tick, world.Ask, world.Attach, world.Crash}
	for i, kind := range kinds {
		if kind != i+1 {
			t.Errorf("the kind %d is %d", i+1, kind)
		}
	}
	if s := (world.Step{1, 2, 3, 4, 5, 6, 7}); s != (world.Step{What: 1, Tx: 2, A: 3, B: 4, Kind: 5, Key: 6, N: 7}) {
		t.Errorf("%+v", s)
	}
	if world.Many != 3 {
		t.Errorf("Many is %d", world.Many)
	}
}

// TestInitialWorld is by the chapter's words alone, without the plain world.
func TestInitialWorld(t *testing.T) {
	w := world.New()
	if n := w.Now(); n != 0 {
		t.Errorf("Now() = %d", n)
	}
	for to := range 256 {
		if n := w.Under(uint8(to)); n != 0 {
			t.Errorf("Under(%d) = %d", to, n)
		}
	}
	for m := range uint8(3) {
		if at, is := w.At(m); at != m || !is {
			t.Errorf("At(%d) = %d, %t", m, at, is)
		}
		for s := range uint8(3) {
			want := hand.Side{Me: s}
			if s == m {
				want.Lease = lease.Lease{Epoch: 1, State: lease.Held}
			}
			if side := w.Side(s, m); side != want {
				t.Errorf("Side(%d, %d) = %+v", s, m, side)
			}
		}
	}
	isNew(t, w)
}

// isNew holds that the chair and the sites of a world are there, each one of its own, and had nothing to do yet.
func isNew(t *testing.T, w *world.World) {
	t.Helper()
	if c := w.Chair(); c == nil || len(c.Log()) != 0 || len(c.Open()) != 0 {
		t.Fatalf("Chair() = %+v", c)
	}
	known := map[*site.Site]bool{}
	for m := range uint8(3) {
		x := w.Site(m)
		if x == nil || len(x.Log()) != 0 || known[x] {
			t.Fatalf("Site(%d) = %+v", m, x)
		}
		known[x] = true
		for tx := range 1000 {
			if _, is := x.Part(tx); is {
				t.Errorf("Site(%d).Part(%d)", m, tx)
			}
		}
		for key := range 64 {
			if n := x.Get(uint8(key)); n != 0 {
				t.Errorf("Site(%d).Get(%d) = %d", m, key, n)
			}
		}
	}
	for tx := range 1000 {
		if d, is := w.Chair().Deal(tx); is {
			t.Errorf("Deal(%d) = %+v", tx, d)
		}
	}
}

// TestNothingBeyondThree: P20.3 for mobiles and stations that there aren't, before and after some steps.
func TestNothingBeyondThree(t *testing.T) {
	x := newTwin(t)
	for _, l := range [][]step{nil, {begin(7, 7, 10, 0), ship(0, 7, 1), attach(1, 255), speak(0, 0), tick(5)}} {
		x.works(l...)
		for i := 3; i < 256; i++ {
			m := uint8(i)
			if own := x.w.Site(m); own != nil {
				t.Errorf("Site(%d) = %+v", m, own)
			}
			if at, is := x.w.At(m); at != 0 || is {
				t.Errorf("At(%d) = %d, %t", m, at, is)
			}
			for other := range 256 {
				if side := x.w.Side(m, uint8(other)); side != (hand.Side{}) {
					t.Errorf("Side(%d, %d) = %+v", m, other, side)
				}
				if side := x.w.Side(uint8(other), m); side != (hand.Side{}) {
					t.Errorf("Side(%d, %d) = %+v", other, m, side)
				}
			}
		}
		for to := 17; to < 256; to++ {
			if n := x.w.Under(uint8(to)); n != 0 {
				t.Errorf("Under(%d) = %d", to, n)
			}
		}
	}
}

// notCreated are worlds that New did not make.
func notCreated() map[string]*world.World {
	return map[string]*world.World{"nil": nil, "zero": {}, "with a network alone": {Air: air.New(5)}}
}

func TestNotCreated(t *testing.T) {
	numbers := []int{math.MinInt, -1, 0, 1, 2, 3, 5, 7, 8, 14, 15, 255, 999, 1000, math.MaxInt}
	for name, w := range notCreated() {
		if name == "with a network alone" {
			w.Send(letter{From: 1, To: 2, B: []byte("a")})
		}
		for _, what := range append(numbers, 4, 6, 9, 10, 11, 12, 13) {
			for _, other := range numbers {
				s := step{What: what, Tx: other, A: uint8(other), B: uint8(other), Kind: other, Key: uint8(other), N: int64(other)}
				if n, e := w.Do(s); n != 0 || e != api.ErrNil {
					t.Errorf("%s: Do(%+v) = %d, %d", name, s, n, e)
				}
			}
		}
		if c := w.Chair(); c != nil {
			t.Errorf("%s: Chair() = %+v", name, c)
		}
		if n := w.Now(); n != 0 {
			t.Errorf("%s: Now() = %d", name, n)
		}
		for i := range 256 {
			seenOfNone(t, name, w, uint8(i))
		}
	}
}

func seenOfNone(t *testing.T, name string, w *world.World, i uint8) {
	t.Helper()
	if x := w.Site(i); x != nil {
		t.Errorf("%s: Site(%d) = %+v", name, i, x)
	}
	if at, is := w.At(i); at != 0 || is {
		t.Errorf("%s: At(%d) = %d, %t", name, i, at, is)
	}
	if n := w.Under(i); n != 0 {
		t.Errorf("%s: Under(%d) = %d", name, i, n)
	}
	for m := range 256 {
		if side := w.Side(i, uint8(m)); side != (hand.Side{}) {
			t.Errorf("%s: Side(%d, %d) = %+v", name, i, m, side)
		}
	}
}

// TestExample is the chapter's one, by its words alone.
func TestExample(t *testing.T) {
	w := world.New()
	for _, s := range []step{
		{What: 1, Tx: 7, A: 3, N: 100},
		{What: 3, Tx: 7, A: 0, N: 1}, {What: 3, Tx: 7, A: 1, N: 1},
		{What: 4, A: 0, B: 0}, {What: 4, A: 1, B: 1},
		{What: 8, A: 16}, {What: 8, A: 16},
	} {
		if d, _ := w.Chair().Deal(7); d.Outcome != api.Open {
			t.Errorf("the outcome is %d already", d.Outcome)
		}
		if n, e := w.Do(s); n != 0 || e != api.OK {
			t.Fatalf("Do(%+v) = %d, %d", s, n, e)
		}
	}
	if d, is := w.Chair().Deal(7); !is || d.Outcome != api.Commit {
		t.Errorf("Deal(7) = %+v, %t", d, is)
	}
	if n := w.Under(16); n != 0 {
		t.Errorf("%d letters are left", n)
	}
}

// TestWholeWay is a transaction of three mobiles from its begin until all know its outcome, with numbers that were worked out by hand.
func TestWholeWay(t *testing.T) {
	x := after(t, begin(7, 7, 10, 2), add(0, 7, 1, 5), add(1, 7, 1, -5), add(2, 7, 63, 9), add(2, 7, 63, 1))
	x.is(read(2, 7, 63), 10, api.OK)
	x.works(ship(0, 7, 1), ship(1, 7, -1), ship(2, 7, 3), local(1, 7))
	numbers := func(a, b, c int64) {
		t.Helper()
		if x.w.Site(0).Get(1) != a || x.w.Site(1).Get(1) != b || x.w.Site(2).Get(63) != c {
			t.Errorf("after %+v: %d, %d, %d", x.steps, x.w.Site(0).Get(1), x.w.Site(1).Get(1), x.w.Site(2).Get(63))
		}
	}
	numbers(0, -5, 0)
	x.works(tick(9), more(2, 2, 7), arrive(16, 0), tick(10), speak(0, 0), speak(1, 1), speak(2, 2), arrive(16, 2), arrive(16, 1))
	if d, is := x.w.Chair().Deal(7); !is || d.Outcome != api.Open || d.Terms.Deadline != 20 || d.Terms.Cap != 2 || d.Terms.Used != 1 {
		t.Errorf("Deal(7) = %+v, %t", d, is)
	}
	x.works(ask(0, 7), arrive(16, 1), arrive(8, 0))
	numbers(0, -5, 0)
	x.works(arrive(16, 0))
	for m := range uint8(3) {
		x.works(ask(m, 7), arrive(16, 0), arrive(8+m, 0))
		p, is := x.w.Site(m).Part(7)
		if !is || p.State != part.Done || p.Outcome != api.Commit {
			t.Errorf("Site(%d).Part(7) = %+v, %t", m, p, is)
		}
	}
	numbers(5, -5, 10)
	x.nothing()
}

// TestWorldsAreApart: what happens to one world does nothing to another one.
func TestWorldsAreApart(t *testing.T) {
	w := world.New()
	x := after(t, begin(7, 7, 10, 0), add(0, 7, 1, 5), ship(0, 7, 1), speak(0, 0), offer(0, 1), tick(4), attach(1, 2), attach(2, 9), crash())
	if w.Now() != 0 || w.Under(16) != 0 || w.Under(1) != 0 || w.Side(0, 0).Cargo != "" {
		t.Errorf("at %d, with %+v", w.Now(), w.Side(0, 0))
	}
	for m := range uint8(3) {
		if at, is := w.At(m); at != m || !is {
			t.Errorf("At(%d) = %d, %t", m, at, is)
		}
	}
	isNew(t, w)
	if _, e := w.Do(begin(7, 1, 10, 0)); e != api.OK {
		t.Errorf("Begin: %d", e)
	}
	x.same()
}

// TestResultsAreApart: what a call returned is not touched by steps that come behind it, and a log may be written to.
func TestResultsAreApart(t *testing.T) {
	x := after(t, begin(7, 7, 10, 0), add(0, 7, 1, 5), ship(0, 7, 1))
	side, log, parts := x.w.Side(0, 0), x.w.Site(0).Log(), x.w.Chair().Log()
	wasSide, wasLog, wasParts := fmt.Sprint(side), fmt.Sprint(log), fmt.Sprint(parts)
	x.works(begin(9, 7, 10, 0), ship(0, 9, 1), offer(0, 1), arrive(1, 0), arrive(0, 0), arrive(1, 0), arrive(0, 0), tick(10))
	if fmt.Sprint(side) != wasSide || fmt.Sprint(log) != wasLog || fmt.Sprint(parts) != wasParts {
		t.Errorf("%v, %v, %v", side, log, parts)
	}
	for i := range log {
		log[i] = site.Record{Kind: 9}
	}
	for i := range parts {
		parts[i] = chair.Record{Kind: 9}
	}
	x.same()
	x.works(crash())
}

// TestTheOnes: Chair and Site give the ones that the steps happen to, not others that are like them.
func TestTheOnes(t *testing.T) {
	x := newTwin(t)
	c, sites := x.w.Chair(), [3]*site.Site{x.w.Site(0), x.w.Site(1), x.w.Site(2)}
	x.works(begin(7, 5, 10, 0), add(2, 7, 1, 5))
	if d, is := c.Deal(7); !is || !slices.Equal(d.Tally.Who[:], []bool{true, false, true, false, false, false, false, false}) {
		t.Errorf("Deal(7) = %+v, %t", d, is)
	}
	for m, own := range sites {
		if _, is := own.Part(7); is != (m != 1) {
			t.Errorf("at the site %d, Part(7): %t", m, is)
		}
	}
	if p, _ := sites[2].Part(7); len(p.Adds) != 1 {
		t.Errorf("%+v", p)
	}
	// What a caller does to them, happens in the world.
	sites[2].Do(site.Record{Kind: site.Vote, Tx: 7, N: 1})
	if _, e := x.w.Do(ship(2, 7, 1)); e != api.ErrOver {
		t.Errorf("Ship: %d", e)
	}
	c.Do(chair.Record{Kind: chair.Tick, Now: 10})
	if _, e := x.w.Do(arriving(t, x.w, 16, 0, note.Note{Kind: note.Vote, Tx: 7, Epoch: 1, Value: 1})); e != api.ErrOver {
		t.Errorf("a Vote: %d", e)
	}
}

// arriving puts a note on the network, and is the step by which it arrives.
func arriving(t *testing.T, w *world.World, to, from uint8, n note.Note) step {
	t.Helper()
	at := w.Under(to)
	if e := w.Send(letter{From: from, To: to, B: bytesOf(t, n)}); e != api.OK {
		t.Fatalf("Send: %d", e)
	}
	return arrive(to, uint8(at))
}
