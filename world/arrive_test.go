package world_test

import (
	"slices"
	"testing"

	"waystation/agent"
	"waystation/api"
	"waystation/hand"
	"waystation/note"
	"waystation/part"
	"waystation/tally"
)

// P20.1 for letters, and P20.2. Where no step sends such a letter, it is put on the network by a call of the network itself.

// Arrive, Lose and Twice

func TestNoLetter(t *testing.T) {
	x := newTwin(t)
	for a := range 256 {
		want := api.ErrNone
		if a > 16 {
			want = api.ErrArg
		}
		for _, at := range []uint8{0, 1, 99, 100, 127, 128, 255} {
			x.fails(arrive(uint8(a), at), want)
			x.fails(lose(uint8(a), at), want)
			x.fails(twice(uint8(a), at), want)
		}
	}
}

// TestIndex: of three letters, each one, and one more.
func TestIndex(t *testing.T) {
	for at := range uint8(3) {
		x := after(t, ask(0, 7), ask(1, 8), ask(2, 9))
		left := []note.Note{askOf(0, 7), askOf(1, 8), askOf(2, 9)}
		for _, wrong := range []uint8{3, 4, 128, 255} {
			x.fails(arrive(16, wrong), api.ErrNone)
			x.fails(lose(16, wrong), api.ErrNone)
			x.fails(twice(16, wrong), api.ErrNone)
		}
		x.works(twice(16, at))
		if l := x.underWay(16); !slices.Equal(l, append(slices.Clone(left), left[at])) {
			t.Errorf("after %+v: %+v", x.steps, l)
		}
		x.works(lose(16, at))
		rest := append(slices.Delete(slices.Clone(left), int(at), int(at)+1), left[at])
		if l := x.underWay(16); !slices.Equal(l, rest) {
			t.Errorf("after %+v: %+v", x.steps, l)
		}
		x.fails(arrive(16, at), api.ErrNone) // there is no deal: the letter has arrived all the same
		if l := x.underWay(16); !slices.Equal(l, slices.Delete(rest, int(at), int(at)+1)) {
			t.Errorf("after %+v: %+v", x.steps, l)
		}
		x.fails(lose(16, 2), api.ErrNone)
		x.works(lose(16, 1), lose(16, 0))
		x.nothing()
	}
}

// TestLetterThatIsNoNote: it arrives, and is gone.
func TestLetterThatIsNoNote(t *testing.T) {
	good := bytesOf(t, askOf(0, 7))
	wrong := [][]byte{nil, {}, {1}, []byte("a letter"), good[:len(good)-1], good[1:], append(slices.Clone(good), 0), make([]byte, 4000)}
	for i := range good {
		if i != 1 && i != 2 {
			turned := slices.Clone(good)
			turned[i] ^= 1 << (i % 8)
			wrong = append(wrong, turned)
		}
	}
	x := after(t, begin(7, 7, 10, 0))
	for to := range uint8(17) {
		for _, b := range wrong {
			x.forge(0, to, b)
			x.fails(arrive(to, 0), api.ErrForm)
			x.nothing()
		}
	}
}

// TestTurned: the network's own call corrupts a letter that a step sent.
func TestTurned(t *testing.T) {
	x := after(t, begin(7, 7, 10, 0), ship(0, 7, 1), speak(0, 0), speak(0, 0))
	if e := x.w.Turn(16, 0, 5, 4); e != api.OK {
		t.Fatalf("Turn: %d", e)
	}
	x.p.to[16][0].B = slices.Clone(x.p.to[16][0].B)
	x.p.to[16][0].B[5] ^= 4
	x.fails(arrive(16, 0), api.ErrForm)
	x.works(arrive(16, 0))
	if d, _ := x.w.Chair().Deal(7); d.Tally.Votes[0] != tally.Yes {
		t.Errorf("%+v", d)
	}
}

// The chair

func (x *twin) votes(tx int, want ...int) {
	x.t.Helper()
	d, _ := x.w.Chair().Deal(tx)
	if !slices.Equal(d.Tally.Votes[:3], want) {
		x.fail("Deal(%d) = %+v", tx, d)
	}
}

func TestChairHearsVotes(t *testing.T) {
	x := after(t, begin(7, 7, 10, 0), ship(0, 7, 1), ship(1, 7, 1), ship(2, 7, 1), tick(9))
	for m, want := range [][]int{{1, 0, 0}, {1, 1, 0}, {1, 1, 1}} {
		x.outcome(7, api.Open)
		x.works(speak(uint8(m), uint8(m)), arrive(16, 0))
		x.votes(7, want...)
	}
	x.outcome(7, api.Commit)
	x.works(speak(0, 0))
	x.fails(arrive(16, 0), api.ErrOver)
	x.nothing()
}

func TestChairHearsNo(t *testing.T) {
	x := after(t, begin(7, 7, 10, 0), ship(1, 7, 0), speak(1, 1), arrive(16, 0))
	x.votes(7, 0, 2, 0)
	x.outcome(7, api.Abort)
	x.works(ship(0, 7, 1), speak(0, 0))
	x.fails(arrive(16, 0), api.ErrOver)
}

// TestChairHearsVoteErrors: what the chair says is what Do says, and the letter is gone.
func TestChairHearsVoteErrors(t *testing.T) {
	x := after(t, begin(7, 3, 10, 0), begin(9, 3, 20, 0), ship(0, 7, 1), speak(0, 0), twice(16, 0), arrive(16, 0), arrive(16, 0))
	for _, c := range []struct {
		n note.Note
		e errno
	}{
		{voteOf(0, 8, 1, 1), api.ErrNone},    // no deal
		{voteOf(2, 7, 1, 1), api.ErrNone},    // not of it
		{voteOf(5, 7, 1, 1), api.ErrNone},    // no mobile that there is
		{voteOf(0, 7, 1, 2), api.ErrHave},    // it voted differently
		{voteOf(0, 7, 1, 1), api.OK},         // once more
		{voteOf(1, 9, 4, 1), api.OK},         // of a late epoch
		{voteOf(1, 9, 3, 1), api.ErrOld},     // of an earlier one
		{voteOf(1, 9, 4, 2), api.ErrHave},    // it voted differently
		{voteOf(1, 9, 1<<20, 1), api.OK},     // of the last one
		{moreOf(1, 9, 1<<20-1), api.ErrOld},  // of an earlier one
		{moreOf(1, 9, 1<<20), api.ErrCap},    // it may not be put off
		{moreOf(2, 9, 1<<20), api.ErrNone},   // not of it
		{moreOf(0, 500, 1<<20), api.ErrNone}, // no deal
	} {
		x.forgeNote(0, 16, c.n)
		x.fails(arrive(16, 0), c.e)
		x.nothing()
	}
	// Between the deadline of a deal and a tick of the chair there is no time, so that a vote too late is over already.
	x.works(tick(10))
	x.forgeNote(0, 16, voteOf(1, 7, 1, 1))
	x.fails(arrive(16, 0), api.ErrOver)
	x.forgeNote(0, 16, moreOf(1, 7, 1))
	x.fails(arrive(16, 0), api.ErrOver)
}

// TestChairHearsMore: as often as it may be, and not when it is over.
func TestChairHearsMore(t *testing.T) {
	for most := range uint8(4) {
		x := after(t, begin(7, 7, 10, most))
		deadline := int64(10)
		for range most {
			x.works(tick(9), more(1, 1, 7), arrive(16, 0))
			deadline += 10
			if d, _ := x.w.Chair().Deal(7); d.Terms.Deadline != deadline || d.Tally.Epochs != [8]int{0, 1} {
				t.Errorf("%+v", d)
			}
		}
		x.works(more(1, 1, 7), more(1, 1, 7))
		x.fails(arrive(16, 0), api.ErrCap)
		x.works(tick(deadline-x.w.Now()-1), more(1, 1, 7))
		x.outcome(7, api.Open)
		x.works(tick(1))
		x.outcome(7, api.Abort)
		x.fails(arrive(16, 0), api.ErrOver)
	}
}

func TestChairIsAsked(t *testing.T) {
	x := after(t, begin(7, 3, 10, 0), begin(9, 1, 5, 0), begin(5, 1, 10, 0), ship(0, 5, 1), speak(0, 0), arrive(16, 0), tick(5))
	for m := range uint8(3) { // also one that is not of it
		for _, c := range []struct{ tx, outcome int }{{7, api.Open}, {9, api.Abort}, {5, api.Commit}} {
			x.works(ask(m, c.tx), arrive(16, 0))
			x.sent(16, 8+m, tellOf(m, c.tx, c.outcome))
			x.works(lose(8+m, 0))
		}
		for _, tx := range []int{0, 8, 999} {
			x.works(ask(m, tx))
			x.fails(arrive(16, 0), api.ErrNone)
			x.nothing()
		}
	}
	// What the chair knows when it hears, and not when it was asked; and the mobile may be at no station then.
	x.works(ask(1, 7), attach(1, 255), tick(5), arrive(16, 0))
	x.sent(16, 9, tellOf(1, 7, api.Abort))
}

// TestChairIsAskedByOthers: of mobiles that there aren't, it tells those, as the words say.
func TestChairIsAskedByOthers(t *testing.T) {
	for m := uint8(3); m < 8; m++ {
		x := after(t, begin(7, 3, 10, 0))
		x.forgeNote(8+m, 16, askOf(m, 7))
		x.works(arrive(16, 0))
		x.sent(16, 8+m, tellOf(m, 7, api.Open))
		x.fails(arrive(8+m, 0), api.ErrForm)
		x.forgeNote(8+m, 16, askOf(m, 8))
		x.fails(arrive(16, 0), api.ErrNone)
		x.nothing()
	}
}

// Mobiles

// asks has a mobile ask for a transaction, and hear the answer, which come last.
func (x *twin) asks(m uint8, tx int) {
	x.t.Helper()
	x.works(ask(m, tx))
	x.works(arrive(16, uint8(x.w.Under(16)-1)))
	x.works(arrive(8+m, uint8(x.w.Under(8+m)-1)))
}

func TestMobileHears(t *testing.T) {
	for _, c := range []struct {
		votes   [2]int64
		outcome int
	}{{[2]int64{1, 1}, api.Commit}, {[2]int64{1, 0}, api.Abort}, {[2]int64{0, 1}, api.Abort}} {
		x := after(t, begin(7, 3, 10, 0), add(0, 7, 1, 5), add(1, 7, 2, 6), ship(0, 7, c.votes[0]), ship(1, 7, c.votes[1]), ask(0, 7), speak(0, 0), speak(1, 1), arrive(16, 1))
		if c.votes[0] == 1 {
			x.works(arrive(16, 0), arrive(8, 0))
			x.state(0, 7, part.Ready) // a Tell of Open changes nothing
			x.works(arrive(16, 0))
		}
		for m := range uint8(2) {
			x.asks(m, 7)
			p, _ := x.w.Site(m).Part(7)
			if p.State != part.Done || p.Outcome != c.outcome {
				t.Errorf("Site(%d).Part(7) = %+v", m, p)
			}
			want := int64(0)
			if c.outcome == api.Commit {
				want = 5 + int64(m)
			}
			if n := x.w.Site(m).Get(1 + m); n != want {
				t.Errorf("Get = %d", n)
			}
		}
	}
}

func TestMobileAway(t *testing.T) {
	x := after(t, begin(7, 3, 10, 0), add(0, 7, 1, 5), ship(0, 7, 1), local(0, 7), ask(0, 7), arrive(16, 0), tick(10))
	x.works(ask(0, 7), arrive(16, 0), twice(8, 1), twice(8, 1), attach(0, 3))
	for range 2 { // a Tell of Open, and one of Abort: away is away
		x.fails(arrive(8, 0), api.ErrAway)
	}
	x.state(0, 7, part.Ready)
	x.works(attach(0, 1), arrive(8, 0), arrive(8, 0))
	x.state(0, 7, part.Done)
	if n := x.w.Site(0).Get(1); n != 0 {
		t.Errorf("Get(1) = %d", n)
	}
	x.nothing()
}

// TestMobileHearsErrors: what its site says. No step sends most of these letters.
func TestMobileHearsErrors(t *testing.T) {
	x := after(t, begin(7, 7, 10, 0), ship(1, 7, 1), begin(9, 7, 10, 0), ship(2, 9, 1))
	for _, c := range []struct {
		to uint8
		n  note.Note
		e  errno
	}{
		{8, tellOf(0, 8, api.Commit), api.ErrNone},
		{8, tellOf(0, 8, api.Open), api.OK},
		{8, tellOf(0, 7, api.Commit), api.ErrOver}, // in Run
		{9, tellOf(1, 7, api.Commit), api.OK},
		{9, tellOf(1, 7, api.Commit), api.OK},
		{9, tellOf(1, 7, api.Abort), api.ErrOver},
		{9, tellOf(1, 7, api.Open), api.OK},
		{8, tellOf(0, 7, api.Abort), api.OK}, // from Run
		{8, tellOf(0, 7, api.Commit), api.ErrOver},
		{10, tellOf(2, 9, api.Abort), api.OK},
		{10, tellOf(2, 9, api.Abort), api.OK},
	} {
		x.forgeNote(16, c.to, c.n)
		x.fails(arrive(c.to, 0), c.e)
		x.nothing()
	}
}

// TestAskInvented: one that is not of a transaction is told of it, and its site has no part.
func TestAskInvented(t *testing.T) {
	x := after(t, begin(7, 1, 10, 0), tick(10), ask(1, 7), arrive(16, 0))
	x.sent(16, 9, tellOf(1, 7, api.Abort))
	x.fails(arrive(9, 0), api.ErrNone)
}

// Stations

func TestStationHearsErrors(t *testing.T) {
	x := after(t, offer(0, 1), twice(1, 0), arrive(1, 0), twice(0, 0), arrive(0, 0), arrive(1, 1))
	// Now station 1 has the agency of epoch 2, a Got is on its way, and an Offer and a Want are left over.
	x.fails(arrive(1, 0), api.ErrOld)
	x.works(arrive(0, 0), lose(1, 0), twice(0, 0), arrive(0, 0))
	x.fails(arrive(0, 0), api.ErrOld)
	x.nothing()
	for _, c := range []struct {
		to uint8
		n  note.Note
		e  errno
	}{
		{0, handOf(0, hand.Offer, 1, 0, 1, ""), api.ErrOld},
		{2, handOf(0, hand.Offer, 1, 0, 5, ""), api.ErrArg}, // to another one
		{0, handOf(0, hand.Offer, 0, 0, 5, ""), api.ErrArg}, // from itself
		{0, handOf(0, hand.Want, 1, 0, 1, ""), api.ErrOld},
		{0, handOf(0, hand.Want, 1, 0, 1, "a"), api.ErrArg}, // with a cargo
		{0, handOf(0, hand.Got, 1, 0, 2, ""), api.ErrOld},
		{2, handOf(0, hand.Got, 1, 2, 2, ""), api.ErrOld},
	} {
		x.forgeNote(c.n.Msg.From, c.to, c.n)
		x.fails(arrive(c.to, 0), c.e)
		x.nothing()
	}
}

// TestStationsSides: a note is about its mobile alone.
func TestStationsSides(t *testing.T) {
	for m := range uint8(3) {
		from, to := m, (m+1)%3
		x := newTwin(t)
		x.handOff(m, from, to, 1)
		for other := range uint8(3) {
			for s := range uint8(3) {
				want := hand.Side{Me: s}
				switch {
				case other == m && s == to:
					want.Lease = heldIn(2)
				case other == m && s == from:
					want.Lease = goneTo(1, to)
				case other == s:
					want.Lease = heldIn(1)
				}
				if side := x.w.Side(s, other); side != want {
					t.Errorf("for %d, Side(%d, %d) = %+v", m, s, other, side)
				}
			}
		}
	}
}

// TestReplyToOthers: a station 3 to 7 asks for the agency and gets it, but nothing is sent there by a reply. That a Give is sent there by Again is as the words of P20.1 say: they leave nothing out.
func TestReplyToOthers(t *testing.T) {
	for from := uint8(3); from < 8; from++ {
		x := after(t, begin(7, 7, 10, 0), ship(0, 7, 1))
		x.forgeNote(from, 1, handOf(0, hand.Offer, from, 1, 1, ""))
		x.works(arrive(1, 0))
		x.nothing()
		x.forgeNote(from, 0, handOf(0, hand.Want, from, 0, 1, ""))
		x.works(arrive(0, 0))
		x.nothing()
		cargo := cargoOf(t, agent.Ballot{Tx: 7, Vote: 1})
		want := hand.Side{Lease: goneTo(1, from), Cargo: cargo, Keep: true}
		if side := x.w.Side(0, 0); side != want {
			t.Errorf("%+v", side)
		}
		x.fails(offer(0, 1), api.ErrAway)
		x.works(again(0, 0))
		x.sent(0, from, handOf(0, hand.Give, 0, from, 2, cargo))
		x.fails(arrive(from, 0), api.ErrForm)
		x.forgeNote(from, 2, handOf(0, hand.Give, from, 2, 9, cargo))
		x.works(arrive(2, 0))
		x.nothing()
	}
}

// TestOthersHearNothing: each kind of note, at each endpoint that does not hear it; what the words name is left out.
func TestOthersHearNothing(t *testing.T) {
	heard := 0
	for m := range uint8(8) {
		notes := []note.Note{voteOf(m, 7, 1, 1), moreOf(m, 7, 1), askOf(m, 7), tellOf(m, 7, 0), tellOf(m, 7, 2)}
		for to := range uint8(17) {
			for kind := 1; kind <= 4; kind++ {
				notes = append(notes, handOf(m, kind, (to+1)%3, to%8, 1, ""))
			}
		}
		for to := range uint8(17) {
			for _, n := range notes {
				switch {
				case to == 16 && n.Kind >= 2 && n.Kind <= 4, to < 3 && n.Kind == 1 && m < 3, to == 8+m && m < 3 && n.Kind == 5:
					heard++
					continue
				}
				x := after(t, begin(7, 7, 10, 3))
				for at := range uint8(3) { // of no mobile that is away, either
					x.works(attach(at, 255))
				}
				x.forgeNote(1, to, n)
				x.fails(arrive(to, 0), api.ErrForm)
				x.nothing()
			}
		}
	}
	if heard != 8*3+3*3*4*17+3*2 {
		t.Errorf("%d are heard", heard)
	}
}

// TestFromDoesNotMatter: who a letter is from is not asked.
func TestFromDoesNotMatter(t *testing.T) {
	for from := range uint8(17) {
		x := after(t, begin(7, 3, 10, 1))
		for _, c := range []struct {
			to uint8
			n  note.Note
		}{
			{16, voteOf(0, 7, 1, 1)}, {16, moreOf(1, 7, 1)}, {16, askOf(2, 7)}, {8, tellOf(0, 7, 2)}, {1, handOf(0, hand.Offer, 2, 1, 1, "")},
		} {
			x.forgeNote(from, c.to, c.n)
			x.works(arrive(c.to, 0))
		}
		x.sent(1, 2, handOf(0, hand.Want, 1, 2, 1, ""))
		x.sent(16, 10, tellOf(2, 7, api.Open))
	}
}

// Room for 100 letters to each endpoint

// fill puts so many letters on their way to the chair, or doubles one to another endpoint.
func (x *twin) fill(to uint8, n int) {
	x.t.Helper()
	for x.w.Under(to) < n {
		if _, e := x.do(twice(to, 0)); e != api.OK {
			x.fail("Twice: %d", e)
		}
	}
	x.same()
}

// TestRoomForLetters: the 100th has room, the 101st is lost, and the step is answered as otherwise.
func TestRoomForLetters(t *testing.T) {
	for _, c := range []struct {
		to   uint8
		l    []step // a letter is on its way then
		last step   // another one is sent
	}{
		{16, []step{ask(0, 7)}, ask(1, 9)},
		{16, []step{ask(0, 7)}, more(1, 1, 9)},
		{16, []step{ask(0, 7), begin(7, 2, 10, 0), ship(1, 7, 1)}, speak(1, 1)},
		{1, []step{offer(0, 1)}, offer(0, 1)},
		{1, []step{offer(2, 1)}, offer(0, 1)},
		{1, []step{offer(0, 1), arrive(1, 0), arrive(0, 0)}, again(0, 0)},
		{1, []step{offer(0, 1), arrive(1, 0), offer(2, 1)}, arrive(0, 0)},
		{8, []step{begin(7, 1, 10, 0), ask(0, 7), twice(16, 0), arrive(16, 0)}, arrive(16, 0)},
	} {
		for _, n := range []int{98, 99, 100} {
			x := after(t, c.l...)
			x.fill(c.to, n)
			x.works(c.last)
			if got := x.w.Under(c.to); got != min(n+1, 100) {
				t.Errorf("%+v, %+v: %d letters", c.l, c.last, got)
			}
			x.fills(c.to)
		}
	}
}

// fills holds that Twice has no room where there are 100 letters, and has with 99.
func (x *twin) fills(to uint8) {
	x.t.Helper()
	x.fill(to, 100)
	for _, at := range []uint8{0, 50, 99} {
		x.fails(twice(to, at), api.ErrFull)
	}
	x.fails(twice(to, 100), api.ErrNone)
	x.fails(twice(to, 255), api.ErrNone)
	x.works(lose(to, 99))
	x.fails(twice(to, 99), api.ErrNone)
	x.works(twice(to, 98))
	x.fails(twice(to, 0), api.ErrFull)
}

// TestRoomForSome: of many votes, those that there is room for are sent, the first ones.
func TestRoomForSome(t *testing.T) {
	x := newTwin(t)
	for tx := range 10 {
		x.works(begin(tx, 1, 100, 0), ship(0, tx, 1))
	}
	x.works(ask(2, 500))
	x.fill(16, 93)
	x.works(speak(0, 0))
	l := x.underWay(16)
	for tx, n := range l[93:] {
		if n != voteOf(0, tx, 1, 1) {
			t.Errorf("%+v", n)
		}
	}
	if len(l) != 100 {
		t.Errorf("%d letters", len(l))
	}
	x.works(speak(0, 0), ask(1, 7), more(0, 0, 7))
	for range 93 {
		x.works(lose(16, 0))
	}
	x.works(speak(0, 0))
	if n := x.w.Under(16); n != 17 {
		t.Errorf("%d letters", n)
	}
}

// TestRoomIsForEach: one endpoint that is full is in nobody else's way.
func TestRoomIsForEach(t *testing.T) {
	x := after(t, begin(7, 7, 10, 0), ask(0, 7))
	x.fill(16, 100)
	x.works(offer(0, 1), arrive(1, 0), arrive(0, 0), arrive(1, 0), arrive(0, 0))
	x.works(arrive(16, 50), arrive(8, 0), more(1, 1, 7), more(1, 1, 7))
	if l := x.underWay(16); len(l) != 100 || l[99] != moreOf(1, 7, 1) || l[98] != askOf(0, 7) {
		t.Errorf("%+v", l[98:])
	}
}

// TestHundredIndices: of 100 letters, the last one is at 99.
func TestHundredIndices(t *testing.T) {
	x := newTwin(t)
	for tx := range 101 {
		x.works(ask(0, tx))
	}
	x.fails(arrive(16, 100), api.ErrNone)
	x.fails(lose(16, 100), api.ErrNone)
	x.works(begin(99, 1, 10, 0), arrive(16, 99))
	x.sent(16, 8, tellOf(0, 99, api.Open))
	x.fails(arrive(16, 99), api.ErrNone)
	x.works(lose(16, 98), lose(16, 49))
	if l := x.underWay(16); len(l) != 97 || l[48].Tx != 48 || l[49].Tx != 50 || l[96].Tx != 97 {
		t.Errorf("%+v", l)
	}
}
