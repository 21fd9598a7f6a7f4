package world_test

import (
	"math"
	"reflect"
	"slices"
	"testing"

	"waystation/agent"
	"waystation/api"
	"waystation/chair"
	"waystation/hand"
	"waystation/lease"
	"waystation/note"
	"waystation/part"
	"waystation/site"
	"waystation/tally"
	"waystation/terms"
	"waystation/world"
)

// P20.1, kind by kind, with what there is to see then as numbers. Behind each step all is held against the plain world too.

func heldIn(epoch int) lease.Lease {
	return lease.Lease{Epoch: epoch, State: lease.Held}
}

func goneTo(epoch int, to uint8) lease.Lease {
	return lease.Lease{Epoch: epoch, State: lease.Gone, To: to}
}

func cargoOf(t *testing.T, l ...agent.Ballot) string {
	t.Helper()
	c, e := agent.Pack(l)
	if e != api.OK {
		t.Fatalf("Pack(%v) = %d", l, e)
	}
	return c
}

// cargo holds the cargo of a mobile's own station.
func (x *twin) cargo(m uint8, l ...agent.Ballot) {
	x.t.Helper()
	want := hand.Side{Me: m, Lease: heldIn(1), Cargo: cargoOf(x.t, l...)}
	if side := x.w.Side(m, m); side != want {
		x.fail("Side(%d, %d) = %+v, want %+v", m, m, side, want)
	}
}

func (x *twin) state(m uint8, tx, want int) {
	x.t.Helper()
	if p, is := x.w.Site(m).Part(tx); !is || p.State != want {
		x.fail("Site(%d).Part(%d) = %+v, %t", m, tx, p, is)
	}
}

func (x *twin) outcome(tx, want int) {
	x.t.Helper()
	if d, is := x.w.Chair().Deal(tx); !is || d.Outcome != want {
		x.fail("Deal(%d) = %+v, %t", tx, d, is)
	}
}

func voteOf(m uint8, tx, epoch, value int) note.Note {
	return note.Note{Kind: note.Vote, Mobile: m, Tx: tx, Epoch: epoch, Value: value}
}

func moreOf(m uint8, tx, epoch int) note.Note {
	return note.Note{Kind: note.More, Mobile: m, Tx: tx, Epoch: epoch}
}

func askOf(m uint8, tx int) note.Note {
	return note.Note{Kind: note.Ask, Mobile: m, Tx: tx}
}

func tellOf(m uint8, tx, value int) note.Note {
	return note.Note{Kind: note.Tell, Mobile: m, Tx: tx, Value: value}
}

func handOf(m uint8, kind int, from, to uint8, epoch int, cargo string) note.Note {
	return note.Note{Kind: note.Hand, Mobile: m, Msg: hand.Msg{Kind: kind, From: from, To: to, Epoch: epoch, Cargo: cargo}}
}

// What

func TestWhat(t *testing.T) {
	x := newTwin(t)
	for _, what := range []int{math.MinInt, -1 << 31, -256, -13, -2, -1, 0, 15, 16, 17, 127, 128, 255, 256, 257, 264, 270, 65536, 65537, math.MaxInt32, math.MaxInt - 1, math.MaxInt} {
		for _, a := range []uint8{0, 1, 3, 255} {
			x.fails(step{What: what, A: a, B: a}, api.ErrArg)
			x.fails(step{What: what, Tx: 7, A: a, B: 1, Kind: 3, Key: 2, N: 10}, api.ErrArg)
		}
	}
	// The first one and the last one are kinds.
	x.works(begin(7, 1, 10, 0), crash())
}

// Begin

// TestBegin: for all A and B, the deal and who has a part.
func TestBegin(t *testing.T) {
	for a := range 256 {
		for _, b := range []uint8{0, 1, 2, 3, 4, 5, 6, 7, 9, 254, 255} {
			x := newTwin(t)
			x.works(tick(50))
			s := begin(7, uint8(a), 20, b)
			if a%8 == 0 {
				x.fails(s, api.ErrArg)
				x.outcomeOfNone(7)
				continue
			}
			x.works(s)
			var want chair.Deal
			for m := range uint8(3) {
				in := a>>m&1 == 1
				want.Tally.Who[m] = in
				if p, is := x.w.Site(m).Part(7); is != in || !reflect.DeepEqual(p, part.Part{}) {
					t.Errorf("after %+v, Site(%d).Part(7) = %+v, %t", s, m, p, is)
				}
			}
			want.Terms = terms.Terms{Deadline: 70, Span: 20, Cap: int(b) & 3}
			if d, is := x.w.Chair().Deal(7); !is || d != want {
				t.Errorf("after %+v, Deal(7) = %+v, %t", s, d, is)
			}
		}
	}
}

// outcomeOfNone holds that nobody knows a transaction.
func (x *twin) outcomeOfNone(tx int) {
	x.t.Helper()
	if d, is := x.w.Chair().Deal(tx); is {
		x.fail("Deal(%d) = %+v", tx, d)
	}
	for m := range uint8(3) {
		if p, is := x.w.Site(m).Part(tx); is {
			x.fail("Site(%d).Part(%d) = %+v", m, tx, p)
		}
	}
}

func TestBeginFails(t *testing.T) {
	x := newTwin(t)
	for _, tx := range []int{math.MinInt, -1000, -1, 1000, 1001, 1007, 65543, math.MaxInt} {
		x.fails(begin(tx, 7, 10, 0), api.ErrArg)
	}
	for _, span := range []int64{math.MinInt64, -1, 0, 1<<20 + 1, 1 << 32, 1<<32 + 10, math.MaxInt64} {
		x.fails(begin(7, 7, span, 0), api.ErrArg)
	}
	for _, who := range []uint8{0, 8, 16, 128, 248} {
		x.fails(begin(7, who, 10, 0), api.ErrArg)
	}
	x.outcomeOfNone(7)
	x.works(begin(0, 1, 1, 0), begin(999, 2, 1<<20, 3), begin(7, 5, 10, 0))
	// ErrHave comes ahead of all but the range of Tx.
	for _, s := range []step{begin(7, 7, 10, 0), begin(7, 2, 10, 0), begin(7, 0, 0, 0), begin(7, 8, -1, 9), begin(0, 7, 1, 0), begin(999, 0, 1, 0)} {
		x.fails(s, api.ErrHave)
	}
	if _, is := x.w.Site(1).Part(7); is {
		t.Error("a Begin that failed began at the site 1")
	}
	x.fails(begin(-1, 0, 0, 0), api.ErrArg)
}

// TestBeginWhereThereIsAPart: what a site says is ignored.
func TestBeginWhereThereIsAPart(t *testing.T) {
	w := world.New()
	w.Site(1).Do(site.Record{Kind: site.Begin, Tx: 7})
	w.Site(1).Do(site.Record{Kind: site.Add, Tx: 7, Key: 3, N: 5})
	if n, e := w.Do(begin(7, 7, 10, 0)); n != 0 || e != api.OK {
		t.Errorf("Begin: %d, %d", n, e)
	}
	for m, adds := range []int{0, 1, 0} {
		if p, is := w.Site(uint8(m)).Part(7); !is || len(p.Adds) != adds {
			t.Errorf("Site(%d).Part(7) = %+v, %t", m, p, is)
		}
	}
}

// Work

func TestWork(t *testing.T) {
	x := after(t, begin(7, 7, 10, 0), begin(9, 7, 10, 0))
	x.works(add(0, 7, 1, 5), add(0, 7, 1, math.MaxInt64), add(1, 7, 1, -3), add(2, 9, 0, 1), add(2, 9, 63, 2))
	x.is(read(0, 7, 1), math.MinInt64+4, api.OK)
	x.is(read(1, 7, 1), -3, api.OK)
	x.is(read(2, 9, 0), 1, api.OK)
	x.is(read(2, 9, 63), 2, api.OK)
	x.is(read(2, 7, 62), 0, api.OK)
	x.fails(read(0, 9, 1), api.ErrLock)
	x.fails(add(0, 9, 1, 1), api.ErrLock)
	x.fails(local(0, 7), api.ErrOver)
	x.works(ship(0, 7, 1), ship(1, 7, 0), local(0, 7))
	x.fails(local(0, 7), api.ErrHave)
	x.fails(local(1, 7), api.ErrOver)
	x.fails(add(0, 7, 2, 1), api.ErrOver)
	x.fails(read(0, 7, 1), api.ErrOver)
	x.is(read(0, 9, 1), math.MinInt64+4, api.OK)
	x.is(read(1, 9, 1), 0, api.OK)
	if n := x.w.Site(0).Get(1); n != math.MinInt64+4 {
		t.Errorf("Get(1) = %d", n)
	}
}

func TestWorkFails(t *testing.T) {
	x := after(t, begin(7, 7, 10, 0))
	kinds := []int{math.MinInt, -256, -1, 0, 1, 4, 6, 7, 8, 255, 256, 258, 259, 261, 65538, math.MaxInt}
	for a := range 256 {
		m := uint8(a)
		for _, kind := range []int{2, 3, 5, 0, 4} {
			s := step{What: world.Work, Tx: 7, A: m, Kind: kind}
			if m >= 3 {
				x.fails(s, api.ErrNone)
			}
		}
	}
	for m := range uint8(3) {
		for _, kind := range kinds {
			x.fails(step{What: world.Work, Tx: 7, A: m, Kind: kind, Key: 1, N: 1}, api.ErrArg)
			x.fails(step{What: world.Work, Tx: 9, A: m, Kind: kind, Key: 255, N: 1}, api.ErrArg)
		}
		x.state(m, 7, part.Run)
		for _, tx := range []int{math.MinInt, -1, 1000, 1007, math.MaxInt} {
			for _, s := range []step{read(m, tx, 1), add(m, tx, 1, 1), local(m, tx)} {
				x.fails(s, api.ErrArg)
			}
		}
		for _, tx := range []int{0, 6, 8, 999} {
			for _, s := range []step{read(m, tx, 1), add(m, tx, 1, 1), local(m, tx), read(m, tx, 255)} {
				x.fails(s, api.ErrNone)
			}
		}
		for _, key := range []uint8{64, 65, 127, 128, 255} {
			x.fails(read(m, 7, key), api.ErrArg)
			x.fails(add(m, 7, key, 1), api.ErrArg)
		}
		for range 50 {
			x.works(add(m, 7, 63, 1))
		}
		x.fails(add(m, 7, 62, 1), api.ErrFull)
	}
}

// Ship

func TestShip(t *testing.T) {
	odd := []int64{1, 3, 255, 257, -1, -3, -255, math.MaxInt64, math.MinInt64 + 1, 1<<32 + 1}
	even := []int64{0, 2, 4, 256, -2, -4, -256, math.MaxInt64 - 1, math.MinInt64, 1 << 32}
	for m := range uint8(3) {
		x := newTwin(t)
		var l []agent.Ballot
		for i, n := range slices.Concat(odd, even) {
			tx, b, state := 10*i, agent.Ballot{Tx: 10 * i, Vote: 1}, part.Ready
			if i >= len(odd) {
				b.Vote, state = 2, part.Refused
			}
			x.works(begin(tx, 1<<m, 10, 0), ship(m, tx, n))
			l = append(l, b)
			x.state(m, tx, state)
			x.cargo(m, l...)
			x.nothing()
		}
	}
}

func TestShipFails(t *testing.T) {
	x := after(t, begin(7, 3, 10, 0), begin(9, 3, 10, 0))
	for a := 3; a < 256; a++ {
		x.fails(ship(uint8(a), 7, 1), api.ErrNone)
		x.fails(ship(uint8(a), -1, 1), api.ErrNone)
	}
	for _, tx := range []int{math.MinInt, -1, 1000, 1007, math.MaxInt} {
		x.fails(ship(0, tx, 1), api.ErrArg)
	}
	x.fails(ship(0, 8, 1), api.ErrNone)
	x.fails(ship(2, 7, 1), api.ErrNone)
	x.cargo(0)
	x.works(ship(0, 7, 1))
	for _, n := range []int64{0, 1, -1} {
		x.fails(ship(0, 7, n), api.ErrOver)
	}
	x.cargo(0, agent.Ballot{Tx: 7, Vote: 1})
	// At no station, or at one that does not hold the agency: ahead of what the site says.
	for _, at := range []uint8{1, 2, 3, 4, 255} {
		x.works(attach(0, at))
		for _, tx := range []int{9, 7, 8, -1, 1000} {
			x.fails(ship(0, tx, 1), api.ErrAway)
		}
	}
	x.state(0, 9, part.Run)
	x.works(attach(0, 0), ship(0, 9, 0))
	x.cargo(0, agent.Ballot{Tx: 7, Vote: 1}, agent.Ballot{Tx: 9, Vote: 2})
}

// TestShipInAnyOrder: the cargo is in order of Tx, and that of another mobile is none of it.
func TestShipInAnyOrder(t *testing.T) {
	x := newTwin(t)
	for _, tx := range []int{999, 0, 500, 1, 998, 7} {
		x.works(begin(tx, 7, 10, 0), ship(0, tx, int64(tx)))
	}
	x.works(ship(1, 7, 0))
	x.cargo(0, agent.Ballot{Tx: 0, Vote: 2}, agent.Ballot{Tx: 1, Vote: 1}, agent.Ballot{Tx: 7, Vote: 1}, agent.Ballot{Tx: 500, Vote: 2}, agent.Ballot{Tx: 998, Vote: 2}, agent.Ballot{Tx: 999, Vote: 1})
	x.cargo(1, agent.Ballot{Tx: 7, Vote: 2})
	x.cargo(2)
}

// TestShipFull: the 51st ballot is refused, but the site has voted.
func TestShipFull(t *testing.T) {
	x := newTwin(t)
	for tx := range 52 {
		x.works(begin(tx, 1, 10, 0))
		if tx < 50 {
			x.works(ship(0, tx, 1))
		}
	}
	side := x.w.Side(0, 0)
	x.fails(ship(0, 50, 1), api.ErrFull)
	x.state(0, 50, part.Ready)
	x.fails(ship(0, 51, 2), api.ErrFull)
	x.state(0, 51, part.Refused)
	for tx := range 52 {
		x.fails(ship(0, tx, 1), api.ErrOver)
	}
	if x.w.Side(0, 0) != side || len(side.Cargo) != 150 {
		t.Errorf("%+v", x.w.Side(0, 0))
	}
	x.works(speak(0, 0))
	if n := x.w.Under(16); n != 50 {
		t.Errorf("%d letters", n)
	}
}

// TestShipAtAnotherStation: the one that the mobile is at, if it holds the agency, and no other one.
func TestShipAtAnotherStation(t *testing.T) {
	x := after(t, begin(7, 7, 10, 0), begin(9, 1, 10, 0))
	x.handOff(0, 0, 2, 1)
	x.fails(ship(0, 7, 1), api.ErrAway)
	x.works(attach(0, 2), ship(0, 7, 1), ship(1, 7, 0))
	if side := x.w.Side(2, 0); side != (hand.Side{Me: 2, Lease: heldIn(2), Cargo: cargoOf(t, agent.Ballot{Tx: 7, Vote: 1})}) {
		t.Errorf("%+v", side)
	}
	if side := x.w.Side(0, 0); side != (hand.Side{Me: 0, Lease: goneTo(1, 2)}) {
		t.Errorf("%+v", side)
	}
	x.works(speak(0, 2))
	x.sent(2, 16, voteOf(0, 7, 2, 1))
}

// handOff takes the agency for a mobile from one station to another one, in an epoch.
func (x *twin) handOff(m, from, to uint8, epoch int) {
	x.t.Helper()
	x.works(offer(m, to), arrive(to, 0), arrive(from, 0), arrive(to, 0), arrive(from, 0))
	if side := x.w.Side(to, m); side.Lease != heldIn(epoch+1) {
		x.fail("Side(%d, %d) = %+v", to, m, side)
	}
}

// Speak

func TestSpeak(t *testing.T) {
	x := after(t, begin(300, 7, 10, 0), begin(7, 7, 10, 0), begin(9, 7, 10, 0), begin(8, 7, 10, 0))
	x.works(speak(0, 0))
	x.nothing()
	x.works(ship(0, 7, 1), speak(0, 0))
	x.sent(0, 16, voteOf(0, 7, 1, 1))
	x.works(lose(16, 0), ship(0, 300, 1), ship(0, 9, 0), speak(0, 0))
	x.sent(0, 16, voteOf(0, 7, 1, 1), voteOf(0, 9, 1, 2), voteOf(0, 300, 1, 1))
	x.works(lose(16, 0), lose(16, 0), lose(16, 0), ship(1, 8, 1), ship(2, 8, 2), speak(1, 1))
	x.sent(1, 16, voteOf(1, 8, 1, 1))
	x.works(lose(16, 0), speak(2, 2))
	x.sent(2, 16, voteOf(2, 8, 1, 2))
	// Wherever the mobile is.
	for _, at := range []uint8{0, 1, 255} {
		x.works(lose(16, 0), attach(2, at), speak(2, 2))
		x.sent(2, 16, voteOf(2, 8, 1, 2))
	}
}

func TestSpeakFails(t *testing.T) {
	x := after(t, begin(7, 7, 10, 0), ship(0, 7, 1), ship(1, 7, 1), ship(2, 7, 1))
	for a := range 256 {
		for _, b := range []int{0, 1, 2, 3, 4, 7, 8, 16, 255, a} {
			switch {
			case a >= 3 || b >= 3:
				x.fails(speak(uint8(a), uint8(b)), api.ErrNone)
				x.fails(speak(uint8(b), uint8(a)), api.ErrNone)
			case a != b:
				x.fails(speak(uint8(a), uint8(b)), api.ErrNone)
			}
		}
	}
	x.nothing()
	// One that has given the agency away speaks no more, and keeps the cargo for the other one alone.
	x.works(offer(0, 1), arrive(1, 0), arrive(0, 0))
	x.fails(speak(0, 0), api.ErrNone)
	x.fails(speak(0, 1), api.ErrNone)
	x.works(arrive(1, 0), speak(0, 1))
	x.sent(1, 16, voteOf(0, 7, 2, 1))
}

// TestSpeakForeignCargo: bytes that are no ballots come by a letter that no step sends.
func TestSpeakForeignCargo(t *testing.T) {
	x := after(t, begin(7, 7, 10, 0))
	x.forgeNote(1, 0, handOf(0, hand.Give, 1, 0, 5, "abcd"))
	x.works(arrive(0, 0))
	x.fails(speak(0, 0), api.ErrForm)
	x.fails(ship(0, 7, 1), api.ErrForm)
	x.state(0, 7, part.Ready)
	x.sent(0, 1, handOf(0, hand.Got, 0, 1, 5, ""))
	x.works(more(0, 0, 7))
	x.sent(0, 16, moreOf(0, 7, 5))
}

// More

func TestMore(t *testing.T) {
	x := after(t, begin(7, 7, 10, 2))
	for _, tx := range []int{7, 0, 8, 999} { // whether there is a deal or not
		for m := range uint8(3) {
			x.works(more(m, m, tx))
			x.sent(m, 16, moreOf(m, tx, 1))
			x.works(lose(16, 0))
		}
	}
	x.handOff(1, 1, 0, 1)
	x.handOff(1, 0, 2, 2)
	x.works(attach(1, 255), more(1, 2, 7))
	x.sent(2, 16, moreOf(1, 7, 3))
	x.works(arrive(16, 0))
	if d, _ := x.w.Chair().Deal(7); d.Terms != (terms.Terms{Deadline: 20, Span: 10, Used: 1, Cap: 2}) || d.Tally.Epochs[1] != 3 {
		t.Errorf("%+v", d)
	}
}

func TestMoreFails(t *testing.T) {
	x := after(t, begin(7, 7, 10, 2))
	wrong := []int{math.MinInt, -1000, -1, 1000, 1001, 65536, 65543, math.MaxInt}
	for a := range 256 {
		for _, b := range []int{0, 1, 2, 3, 4, 7, 8, 16, 255, a} {
			if a >= 3 || b >= 3 {
				x.fails(more(uint8(a), uint8(b), 7), api.ErrNone)
				x.fails(more(uint8(b), uint8(a), -1), api.ErrNone)
			}
		}
	}
	for m := range uint8(3) {
		for s := range uint8(3) {
			for _, tx := range wrong {
				x.fails(more(m, s, tx), api.ErrArg)
			}
			if s != m {
				x.fails(more(m, s, 7), api.ErrAway)
				x.fails(more(m, s, 0), api.ErrAway)
				x.fails(more(m, s, 999), api.ErrAway)
			}
		}
	}
	x.nothing()
	x.works(offer(0, 1), arrive(1, 0), arrive(0, 0))
	x.fails(more(0, 0, 7), api.ErrAway)
	x.fails(more(0, 1, 7), api.ErrAway)
}

// Offer and Again

func TestOffer(t *testing.T) {
	for m := range uint8(3) {
		for to := range uint8(3) {
			x := newTwin(t)
			if to == m {
				x.fails(offer(m, to), api.ErrArg)
				x.nothing()
				continue
			}
			x.works(offer(m, to))
			x.sent(m, to, handOf(m, hand.Offer, m, to, 1, ""))
			if side := x.w.Side(m, m); side != (hand.Side{Me: m, Lease: heldIn(1)}) {
				t.Errorf("%+v", side)
			}
		}
	}
}

func TestOfferToOthers(t *testing.T) {
	x := newTwin(t)
	for b := 3; b < 256; b++ {
		for m := range uint8(3) {
			want := api.OK
			if b >= 8 {
				want = api.ErrArg
			}
			x.fails(offer(m, uint8(b)), want)
		}
		for _, a := range []uint8{3, 4, 7, 8, 255, uint8(b)} {
			x.fails(offer(a, uint8(b)), api.ErrNone)
			x.fails(offer(a, 0), api.ErrNone)
		}
	}
	x.nothing()
}

// TestOfferOfNobody: while a Give is on its way, no station holds the agency.
func TestOfferOfNobody(t *testing.T) {
	x := after(t, offer(1, 2), arrive(2, 0), arrive(1, 0))
	for b := range 256 {
		x.fails(offer(1, uint8(b)), api.ErrAway)
	}
	x.works(offer(0, 1), offer(2, 1), lose(1, 0), lose(1, 0), arrive(2, 0))
	x.fails(offer(1, 2), api.ErrArg)
	x.works(offer(1, 0))
	x.sent(2, 0, handOf(1, hand.Offer, 2, 0, 2, ""))
}

// TestOfferInTheLastEpoch: hand.Ask says that there is no later one. No row of steps gets there in time, so that a forged letter has to.
func TestOfferInTheLastEpoch(t *testing.T) {
	x := newTwin(t)
	x.forgeNote(1, 0, handOf(0, hand.Give, 1, 0, 1<<20-1, ""))
	x.works(arrive(0, 0), lose(1, 0), offer(0, 2), lose(2, 0))
	x.forgeNote(1, 0, handOf(0, hand.Give, 1, 0, 1<<20, ""))
	x.works(arrive(0, 0), lose(1, 0))
	for _, b := range []uint8{1, 2, 3, 7} {
		x.fails(offer(0, b), api.ErrBig)
	}
	for _, b := range []uint8{0, 8, 255} {
		x.fails(offer(0, b), api.ErrArg)
	}
	x.nothing()
	x.works(more(0, 0, 7))
	x.sent(0, 16, moreOf(0, 7, 1<<20))
}

// TestHandOff, message by message, with votes that go with it.
func TestHandOff(t *testing.T) {
	x := after(t, begin(7, 3, 10, 0), ship(0, 7, 1), ship(1, 7, 1))
	cargo := cargoOf(t, agent.Ballot{Tx: 7, Vote: 1})
	side := func(s uint8, want hand.Side) {
		t.Helper()
		want.Me = s
		if got := x.w.Side(s, 0); got != want {
			t.Fatalf("after %+v, Side(%d, 0) = %+v", x.steps, s, got)
		}
	}
	x.works(offer(0, 2))
	x.sent(0, 2, handOf(0, hand.Offer, 0, 2, 1, ""))
	x.works(arrive(2, 0))
	side(2, hand.Side{})
	x.sent(2, 0, handOf(0, hand.Want, 2, 0, 1, ""))
	x.works(arrive(0, 0))
	side(0, hand.Side{Lease: goneTo(1, 2), Cargo: cargo, Keep: true})
	x.sent(0, 2, handOf(0, hand.Give, 0, 2, 2, cargo))
	for range 2 {
		x.works(lose(2, 0), again(0, 0))
		x.sent(0, 2, handOf(0, hand.Give, 0, 2, 2, cargo))
	}
	x.works(arrive(2, 0))
	side(2, hand.Side{Lease: heldIn(2), Cargo: cargo})
	x.sent(2, 0, handOf(0, hand.Got, 2, 0, 2, ""))
	x.works(again(0, 0), arrive(0, 0))
	side(0, hand.Side{Lease: goneTo(1, 2)})
	x.works(again(0, 0), again(0, 2), arrive(2, 0))
	x.fails(arrive(0, 0), api.ErrOld)
	x.nothing()
	side(1, hand.Side{})
	if side := x.w.Side(1, 1); side != (hand.Side{Me: 1, Lease: heldIn(1), Cargo: cargo}) {
		t.Errorf("%+v", side)
	}
	// And on, to the third one, and back.
	x.handOff(0, 2, 1, 2)
	x.handOff(0, 1, 0, 3)
	side(0, hand.Side{Lease: heldIn(4), Cargo: cargo})
	x.works(speak(0, 0))
	x.sent(0, 16, voteOf(0, 7, 4, 1))
}

func TestAgain(t *testing.T) {
	x := newTwin(t)
	for a := range 256 {
		for _, b := range []int{0, 1, 2, 3, 4, 7, 8, 16, 255, a} {
			want := api.OK
			if a >= 3 || b >= 3 {
				want = api.ErrNone
			}
			x.fails(again(uint8(a), uint8(b)), want)
			x.fails(again(uint8(b), uint8(a)), want)
		}
	}
	x.nothing()
	x.works(offer(2, 1), again(2, 2), lose(1, 0), again(2, 2))
	x.nothing() // an Offer is not sent again
}

// Tick

func TestTick(t *testing.T) {
	x := newTwin(t)
	for _, n := range []int64{math.MinInt64, -1 << 40, -1 << 32, -1, 1<<20 + 1, 1 << 32, 1 << 40, 1<<40 + 1, math.MaxInt64 - 1, math.MaxInt64} {
		x.fails(tick(n), api.ErrArg)
	}
	now := int64(0)
	for _, n := range []int64{0, 1, 5, 0, 1<<20 - 1, 1 << 20, 1 << 20} {
		now += n
		x.works(tick(n))
		if got := x.w.Now(); got != now {
			t.Fatalf("Now() = %d, want %d", got, now)
		}
	}
}

// TestTickDecides: each tick is one of the chair's too, at the new time.
func TestTickDecides(t *testing.T) {
	x := after(t, begin(7, 7, 10, 0), tick(1), begin(9, 1, 9, 0), begin(5, 1, 10, 1), tick(8))
	x.outcome(7, api.Open)
	x.works(tick(0))
	x.outcome(7, api.Open)
	x.works(tick(1))
	x.outcome(7, api.Abort)
	x.outcome(9, api.Abort)
	x.outcome(5, api.Open)
	x.works(tick(1))
	x.outcome(5, api.Abort)
	if l := x.w.Chair().Log(); len(l) != 8 || l[1] != (chair.Record{Kind: chair.Tick, Now: 1}) || l[7] != (chair.Record{Kind: chair.Tick, Now: 11}) {
		t.Errorf("%+v", l)
	}
}

// TestTickUpToTheEnd: the time comes to 2^40, and not further; with errors nothing is in the chair's log.
func TestTickUpToTheEnd(t *testing.T) {
	w := world.New()
	for range 1<<20 - 1 {
		if n, e := w.Do(tick(1 << 20)); n != 0 || e != api.OK {
			t.Fatalf("at %d: %d, %d", w.Now(), n, e)
		}
	}
	fails := func(n int64, want errno) {
		t.Helper()
		was := w.Now()
		if got, e := w.Do(tick(n)); got != 0 || e != want || w.Now() != was {
			t.Errorf("at %d, a Tick by %d: %d, %d", was, n, got, e)
		}
	}
	works := func(l ...step) {
		t.Helper()
		for _, s := range l {
			if n, e := w.Do(s); n != 0 || e != api.OK {
				t.Fatalf("at %d, %+v: %d, %d", w.Now(), s, n, e)
			}
		}
	}
	works(tick(5))
	fails(1<<20, api.ErrBig)
	fails(1<<20-4, api.ErrBig)
	fails(1<<20+1, api.ErrArg)
	fails(-1, api.ErrArg)
	works(tick(1<<20-6), begin(7, 1, 1, 0))
	if _, e := w.Do(begin(8, 1, 2, 0)); e != api.ErrBig {
		t.Errorf("Begin: %d", e)
	}
	fails(2, api.ErrBig)
	works(tick(0), tick(1))
	if now := w.Now(); now != 1<<40 {
		t.Errorf("Now() = %d", now)
	}
	fails(1, api.ErrBig)
	fails(1<<20, api.ErrBig)
	fails(1<<20+1, api.ErrArg)
	fails(-1, api.ErrArg)
	works(tick(0))
	if d, _ := w.Chair().Deal(7); d.Outcome != api.Abort {
		t.Errorf("%+v", d)
	}
	// All ticks that were OK, and the Begin.
	if l := w.Chair().Log(); len(l) != 1<<20+5 || l[len(l)-1] != (chair.Record{Kind: chair.Tick, Now: 1 << 40}) {
		t.Errorf("%d records, the last one %+v", len(l), l[len(l)-1])
	}
}

// Ask

func TestAsk(t *testing.T) {
	x := after(t, begin(7, 1, 10, 0))
	for m := range uint8(3) {
		for _, tx := range []int{7, 0, 8, 999} { // whether there is a deal or not, and whether it is of this mobile
			for at := range uint8(3) {
				x.works(attach(m, at), ask(m, tx))
				x.sent(8+m, 16, askOf(m, tx))
				x.works(lose(16, 0))
			}
		}
	}
}

func TestAskFails(t *testing.T) {
	x := after(t, begin(7, 7, 10, 0), attach(1, 3))
	for a := 3; a < 256; a++ {
		x.fails(ask(uint8(a), 7), api.ErrNone)
		x.fails(ask(uint8(a), -1), api.ErrNone)
	}
	for m := range uint8(3) {
		for _, tx := range []int{math.MinInt, -1, 1000, 1001, 65543, math.MaxInt} {
			x.fails(ask(m, tx), api.ErrArg)
		}
	}
	for _, at := range []uint8{3, 4, 7, 8, 255} {
		x.works(attach(1, at))
		for _, tx := range []int{7, 0, 999} {
			x.fails(ask(1, tx), api.ErrAway)
		}
		x.fails(ask(1, 1000), api.ErrArg)
	}
	x.nothing()
}

// Attach

func TestAttach(t *testing.T) {
	x := newTwin(t)
	for b := range 256 {
		for m := range uint8(3) {
			x.works(attach(m, uint8(b)))
			wantAt, wantIs := uint8(0), b < 3
			if wantIs {
				wantAt = uint8(b)
			}
			if at, is := x.w.At(m); at != wantAt || is != wantIs {
				t.Errorf("after %+v, At(%d) = %d, %t", attach(m, uint8(b)), m, at, is)
			}
			x.works(attach(m, m))
		}
		for _, m := range []uint8{3, 4, 7, 8, 255} {
			x.fails(attach(m, uint8(b)), api.ErrNone)
		}
		if b >= 3 {
			x.fails(attach(uint8(b), 0), api.ErrNone)
			x.fails(attach(uint8(b), 255), api.ErrNone)
		}
	}
	x.works(attach(0, 1), attach(1, 1), attach(2, 9), attach(2, 0))
}

// Crash

func TestCrash(t *testing.T) {
	x := after(t, crash(), crash(), begin(7, 7, 10, 1), add(0, 7, 1, 5), ship(0, 7, 1), local(0, 7), ship(1, 7, 1), attach(2, 9), offer(1, 2), arrive(2, 0), arrive(1, 0), speak(0, 0), more(0, 0, 7), tick(3), arrive(16, 1))
	c, own := x.w.Chair(), x.w.Site(0)
	for _, a := range []uint8{0, 3, 255} {
		x.works(step{What: world.Crash, Tx: -1, A: a, B: a, Kind: -1, Key: a, N: -1})
	}
	if x.w.Chair() == c || x.w.Site(0) == own {
		t.Error("the chair or a site is not a new one")
	}
	if d, is := x.w.Chair().Deal(7); !is || d.Terms.Deadline != 20 {
		t.Errorf("%+v, %t", d, is)
	}
	// Now the first ones have nothing to do with the world.
	own.Do(site.Record{Kind: site.Decide, Tx: 7, N: 2})
	c.Do(chair.Record{Kind: chair.Tick, Now: 50})
	x.same()
}

// TestNumbers: what a step does not use does not matter, for each kind.
func TestNumbers(t *testing.T) {
	ways := [][]step{
		{begin(7, 3, 10, 1)}, {add(0, 5, 1, 5), read(0, 5, 1), ship(0, 5, 1), local(0, 5)}, {ship(0, 5, 1), speak(0, 0)}, {more(0, 0, 5), arrive(16, 0)}, {offer(0, 2), arrive(2, 0), arrive(0, 0), again(0, 0), lose(2, 0), twice(2, 0)},
		{tick(5)}, {ask(1, 5), arrive(16, 0), arrive(9, 0)}, {attach(1, 2)}, {crash()},
	}
	for _, way := range ways {
		for _, other := range []int{-1, 1, 3, 255, 1000} {
			x := after(t, begin(5, 7, 10, 3))
			for _, s := range way {
				n, e := x.do(filled(s, other))
				if e != api.OK || (n != 0) != (s.What == world.Work && s.Kind == site.Read) {
					t.Errorf("%+v: %d, %d", filled(s, other), n, e)
				}
			}
			x.same()
		}
	}
}

// filled is a step whose other fields are those of something else.
func filled(s step, other int) step {
	o := step{s.What, other, uint8(other), uint8(other), other, uint8(other), int64(other)}
	use := map[int]func(){
		world.Begin:  func() { o.Tx, o.A, o.B, o.N = s.Tx, s.A, s.B, s.N },
		world.Work:   func() { o.Tx, o.A, o.Kind, o.Key, o.N = s.Tx, s.A, s.Kind, s.Key, s.N },
		world.Ship:   func() { o.Tx, o.A, o.N = s.Tx, s.A, s.N },
		world.Speak:  func() { o.A, o.B = s.A, s.B },
		world.More:   func() { o.Tx, o.A, o.B = s.Tx, s.A, s.B },
		world.Offer:  func() { o.A, o.B = s.A, s.B },
		world.Again:  func() { o.A, o.B = s.A, s.B },
		world.Arrive: func() { o.A, o.Key = s.A, s.Key },
		world.Lose:   func() { o.A, o.Key = s.A, s.Key },
		world.Twice:  func() { o.A, o.Key = s.A, s.Key },
		world.Tick:   func() { o.N = s.N },
		world.Ask:    func() { o.Tx, o.A = s.Tx, s.A },
		world.Attach: func() { o.A, o.B = s.A, s.B },
		world.Crash:  func() {},
	}
	use[s.What]()
	return o
}

// TestLogsHaveWhatIsGiven: the records of Work have the step's Tx, Key and N, also where the kind does not use them.
func TestLogsHaveWhatIsGiven(t *testing.T) {
	x := newTwin(t)
	x.works(step{What: world.Begin, Tx: 7, A: 1, B: 6, Kind: 9, Key: 9, N: 10})
	x.do(step{What: world.Work, Tx: 7, Kind: 2, B: 9, Key: 4, N: 6})
	x.works(step{What: world.Ship, Tx: 7, Kind: 9, Key: 9, N: -7}, step{What: world.Work, Tx: 7, Kind: 5, B: 9, Key: 5, N: 8})
	want := []site.Record{{Kind: 1, Tx: 7}, {Kind: 2, Tx: 7, Key: 4, N: 6}, {Kind: 4, Tx: 7, N: 1}, {Kind: 5, Tx: 7, Key: 5, N: 8}}
	if l := x.w.Site(0).Log(); !slices.Equal(l, want) {
		t.Errorf("%+v", l)
	}
	x.works(tick(3), speak(0, 0), arrive(16, 0), more(0, 0, 7))
	x.fails(arrive(16, 0), api.ErrOver)
	x.works(begin(9, 1, 7, 3), more(0, 0, 9), arrive(16, 0))
	deals := []chair.Record{{Kind: 1, Tx: 7, Who: 1, Span: 10, Cap: 2}, {Kind: 4, Now: 3}, {Kind: 2, Tx: 7, Epoch: 1, Vote: tally.Yes, Now: 3}, {Kind: 1, Tx: 9, Who: 1, Now: 3, Span: 7, Cap: 3}, {Kind: 3, Tx: 9, Epoch: 1, Now: 3}}
	if l := x.w.Chair().Log(); !slices.Equal(l, deals) {
		t.Errorf("%+v", l)
	}
}
