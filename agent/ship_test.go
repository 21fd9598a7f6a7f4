package agent_test

import (
	"math"
	"slices"
	"strings"
	"testing"

	"waystation/agent"
	"waystation/api"
	"waystation/hand"
	"waystation/lease"
)

// P19.2

// ship makes the call twice, and holds it against the chapter's words.
func ship(t *testing.T, s hand.Side, b agent.Ballot) (hand.Side, api.Errno) {
	t.Helper()
	want, wantErr := plainShip(s, b)
	for range 2 {
		if got, e := agent.Ship(s, b); got != want || e != wantErr {
			t.Fatalf("Ship(%s, %v) = %s, %d, want %s, %d", showSide(s), b, showSide(got), e, showSide(want), wantErr)
		}
	}
	return want, wantErr
}

// ships ships these ballots, one after the other, all of which must be taken.
func ships(t *testing.T, s hand.Side, l ...agent.Ballot) hand.Side {
	t.Helper()
	for _, b := range l {
		next, e := ship(t, s, b)
		if e != api.OK {
			t.Fatalf("Ship(%s, %v) = %d", showSide(s), b, e)
		}
		s = next
	}
	return s
}

// shipFails checks that there is this error, and that the side is as it was.
func shipFails(t *testing.T, s hand.Side, b agent.Ballot, want api.Errno) {
	t.Helper()
	if got, e := ship(t, s, b); got != s || e != want {
		t.Fatalf("Ship(%s, %v) = %s, %d, want %d", showSide(s), b, showSide(got), e, want)
	}
}

// becomes checks that a ballot is taken, and what the list is then.
func becomes(t *testing.T, l ballots, b agent.Ballot, want ballots) {
	t.Helper()
	for _, s := range []hand.Side{holds(0, 1, plainCargo(l)), holds(7, lastEpoch, plainCargo(l)), holds(3, 17, plainCargo(l))} {
		got, e := ship(t, s, b)
		if got != holds(s.Me, s.Lease.Epoch, plainCargo(want)) || e != api.OK {
			t.Fatalf("Ship(%s, %v) = %s, %d", showSide(s), b, showSide(got), e)
		}
	}
}

func TestPlaces(t *testing.T) {
	l := of(7, 9, 300)
	for _, vote := range []int{1, 2} {
		becomes(t, nil, ballot(7, vote), ballots{ballot(7, vote)})
		becomes(t, l, ballot(0, vote), slices.Concat(ballots{ballot(0, vote)}, l))
		becomes(t, l, ballot(6, vote), slices.Concat(ballots{ballot(6, vote)}, l))
		becomes(t, l, ballot(8, vote), slices.Concat(l[:1], ballots{ballot(8, vote)}, l[1:]))
		becomes(t, l, ballot(10, vote), slices.Concat(l[:2], ballots{ballot(10, vote)}, l[2:]))
		becomes(t, l, ballot(299, vote), slices.Concat(l[:2], ballots{ballot(299, vote)}, l[2:]))
		becomes(t, l, ballot(301, vote), slices.Concat(l, ballots{ballot(301, vote)}))
		becomes(t, l, ballot(999, vote), slices.Concat(l, ballots{ballot(999, vote)}))
	}
}

// TestThere: a ballot that the list has already, and the other one for the same transaction.
func TestThere(t *testing.T) {
	for _, l := range validLists() {
		for _, b := range l {
			becomes(t, l, b, l)
			shipFails(t, holds(1, 5, plainCargo(l)), other(b), api.ErrHave)
		}
	}
}

// TestEachTxShipped: all of them, to some lists.
func TestEachTxShipped(t *testing.T) {
	for _, l := range []ballots{nil, of(0), of(999), of(500), of(10, 500, 990), of(0, 1, 998, 999), evenly(48, 0, 1), evenly(49, 3, 7), evenly(49, 951, 1), evenly(50, 3, 7), evenly(50, 0, 20)} {
		s := holds(2, 9, plainCargo(l))
		for tx := -10; tx <= 1010; tx++ {
			for vote := -1; vote <= 4; vote++ {
				if got, e := ship(t, s, ballot(tx, vote)); (tx < 0 || tx > 999 || vote < 1 || vote > 2) != (e == api.ErrArg) || e != api.OK && got != s {
					t.Fatalf("Ship(%s, %d %d) = %s, %d", showSide(s), tx, vote, showSide(got), e)
				}
			}
		}
	}
}

func TestWrongBallots(t *testing.T) {
	for _, b := range wrongBallots() {
		shipFails(t, hand.Side{}, b, api.ErrArg)
		for _, l := range []ballots{nil, of(7, 9), evenly(49, 0, 1), evenly(50, 0, 1)} {
			shipFails(t, holds(1, 5, plainCargo(l)), b, api.ErrArg)
			shipFails(t, keeps(1, 5, 2, plainCargo(l)), b, api.ErrArg)
		}
	}
}

func TestShipWithoutAgency(t *testing.T) {
	for _, s := range agentless() {
		for _, b := range append(of(0, 7, 9, 500, 999), ballot(7, 1), ballot(7, 2)) {
			shipFails(t, s, b, api.ErrNone)
		}
		shipFails(t, s, ballot(1000, 1), api.ErrArg)
		shipFails(t, s, ballot(7, 3), api.ErrArg)
	}
}

func TestShipToWrongCargos(t *testing.T) {
	for _, c := range wrongCargos() {
		for _, s := range []hand.Side{holds(0, 1, c), holds(7, lastEpoch, c)} {
			for _, b := range append(of(0, 1, 7, 9, 300, 999), ballot(7, 1), ballot(7, 2), ballot(0, 1), ballot(0, 2)) {
				shipFails(t, s, b, api.ErrForm)
			}
			shipFails(t, s, ballot(-1, 1), api.ErrArg)
			shipFails(t, s, ballot(7, 0), api.ErrArg)
		}
	}
}

// changedCargos are those of a few lists with one byte changed, cut off, or more; some are cargos of other lists.
func changedCargos(yield func(string) bool) {
	for _, l := range []ballots{of(7), of(255, 256), of(0, 7, 999), evenly(50, 3, 7)} {
		c := []byte(plainCargo(l))
		for i := range c {
			for x := range 256 {
				if !yield(string(with(c, i, byte(x)))) || x < 4 && !yield(string(slices.Insert(slices.Clone(c), i, byte(x)))) {
					return
				}
			}
			if !yield(string(c[:i])) || !yield(string(slices.Delete(slices.Clone(c), i, i+1))) {
				return
			}
		}
	}
}

func TestShipToChangedCargos(t *testing.T) {
	for c := range changedCargos {
		for _, b := range (ballots{{Tx: 7, Vote: 2}, {Tx: 999, Vote: 1}}) {
			ship(t, holds(1, 5, c), b)
		}
	}
}

func TestShipToWrongSides(t *testing.T) {
	for _, s := range wrongSides() {
		for _, b := range append(of(0, 7, 9, 500, 999), ballot(7, 1), ballot(7, 2), ballot(1000, 1), ballot(7, 3)) {
			shipFails(t, s, b, api.ErrArg)
		}
	}
}

// TestFull: a list of 49 takes one more; a list of 50 takes none but those that it has.
func TestFull(t *testing.T) {
	for _, l := range []ballots{evenly(49, 1, 1), evenly(49, 3, 20), evenly(49, 950, 1)} {
		for tx := range 1000 {
			at, is := slices.BinarySearchFunc(l, tx, func(b agent.Ballot, tx int) int { return b.Tx - tx })
			if is {
				continue
			}
			b := ballot(tx, 1+tx%2)
			full := slices.Insert(slices.Clone(l), at, b)
			becomes(t, l, b, full)
			becomes(t, full, b, full)
			s := holds(1, 5, plainCargo(full))
			shipFails(t, s, other(b), api.ErrHave)
			if tx%50 == 0 {
				for _, b := range full {
					becomes(t, full, b, full)
					shipFails(t, s, other(b), api.ErrHave)
				}
			}
			for _, tx := range []int{0, 2, 52, 500, 949, 999} {
				if slices.IndexFunc(full, func(b agent.Ballot) bool { return b.Tx == tx }) < 0 {
					shipFails(t, s, ballot(tx, 1), api.ErrFull)
					shipFails(t, s, ballot(tx, 2), api.ErrFull)
				}
			}
		}
	}
}

// TestSeveralConditions: several are broken at once, and the one that is named first tells the error.
func TestSeveralConditions(t *testing.T) {
	full := evenly(50, 0, 20)
	has, differs, more, wrong := full[3], other(full[3]), ballot(7, 1), ballot(7, 3)
	c := plainCargo(full)
	form := c + "\x03\xe7\x01"                               // 51 ballots, one of which is for the Tx of has
	twice := plainCargo(with(full, 4, differs))              // two for its Tx, with either Vote
	long := strings.Repeat("\x00\x07\x01", 166) + "\x00\x07" // of 500 bytes
	for _, x := range []struct {
		s hand.Side
		b agent.Ballot
		e api.Errno
	}{
		{holds(1, 5, c), has, api.OK},
		{holds(1, 5, c), differs, api.ErrHave},
		{holds(1, 5, c), more, api.ErrFull},
		{holds(1, 5, c), wrong, api.ErrArg},
		{holds(1, 5, form), has, api.ErrForm},
		{holds(1, 5, form), differs, api.ErrForm},
		{holds(1, 5, form), more, api.ErrForm},
		{holds(1, 5, form), wrong, api.ErrArg},
		{holds(1, 5, twice), has, api.ErrForm},
		{holds(1, 5, twice), differs, api.ErrForm},
		{holds(1, 5, twice), more, api.ErrForm},
		{holds(1, 5, long), ballot(7, 2), api.ErrForm},
		{keeps(1, 5, 2, c), has, api.ErrNone},
		{keeps(1, 5, 2, c), differs, api.ErrNone},
		{keeps(1, 5, 2, c), more, api.ErrNone},
		{keeps(1, 5, 2, c), wrong, api.ErrArg},
		{keeps(1, 5, 2, form), has, api.ErrNone},
		{keeps(1, 5, 2, form), wrong, api.ErrArg},
		{keeps(1, 5, 1, form), has, api.ErrArg},
		{keeps(1, 5, 1, form), wrong, api.ErrArg},
		{keeps(8, 5, 1, c), more, api.ErrArg},
		{holds(8, 5, c), differs, api.ErrArg},
		{holds(8, 5, c), more, api.ErrArg},
		{holds(8, 5, form), has, api.ErrArg},
		{sideOf(1, held(5), c, true), has, api.ErrArg},
		{sideOf(1, held(5), c, true), more, api.ErrArg},
		{sideOf(1, held(5), form, true), wrong, api.ErrArg},
		{sideOf(1, lease.Lease{}, c, false), has, api.ErrArg},
		{sideOf(1, lease.Lease{}, form, false), more, api.ErrArg},
		{sideOf(1, gone(5, 2), form, false), more, api.ErrArg},
		{holds(1, 5, long+"\x01"), ballot(7, 2), api.ErrArg},
	} {
		if got, e := ship(t, x.s, x.b); e != x.e || got != x.s {
			t.Errorf("Ship(%s, %v) = %s, %d, want %d", showSide(x.s), x.b, showSide(got), e, x.e)
		}
	}
}

func TestManySides(t *testing.T) {
	errs := map[api.Errno]int{}
	few := ballots{ballot(0, 1), ballot(7, 2), ballot(999, 1), ballot(500, 2), ballot(1000, 1), ballot(7, 3)}
	for s := range manySides {
		for _, b := range few {
			_, e := ship(t, s, b)
			errs[e]++
		}
	}
	for _, e := range []api.Errno{api.OK, api.ErrArg, api.ErrNone, api.ErrForm, api.ErrHave, api.ErrFull} {
		if errs[e] < 10 {
			t.Errorf("the error %d: %d times", e, errs[e])
		}
	}
}

func TestAllBallotsShipped(t *testing.T) {
	for _, l := range validLists() {
		for _, b := range allBallots() {
			ship(t, holds(4, 1000, plainCargo(l)), b)
		}
	}
}

// each calls see with all orders of a list.
func each(l ballots, see func(ballots)) {
	var from func(at int)
	from = func(at int) {
		if at == len(l) {
			see(l)
			return
		}
		for i := at; i < len(l); i++ {
			l[at], l[i] = l[i], l[at]
			from(at + 1)
			l[at], l[i] = l[i], l[at]
		}
	}
	from(0)
}

// TestEveryOrder: the cargo is the same, in whatever order the ballots are shipped.
func TestEveryOrder(t *testing.T) {
	for _, l := range []ballots{of(7), of(7, 9), of(0, 1, 2), of(0, 7, 500, 999), of(3, 255, 256, 257, 512), of(0, 1, 2, 500, 997, 998, 999)} {
		want := holds(1, 5, plainCargo(l))
		orders := 0
		each(slices.Clone(l), func(mixed ballots) {
			orders++
			if s := ships(t, holds(1, 5, ""), mixed...); s != want {
				t.Fatalf("the cargo of %v is %s", mixed, showSide(s))
			}
		})
		factorial := 1
		for n := range l {
			factorial *= n + 1
		}
		if orders != factorial {
			t.Errorf("%d orders of %v", orders, l)
		}
	}
}

func TestManyOrders(t *testing.T) {
	from := source(50)
	for _, l := range validLists() {
		want := holds(1, 5, plainCargo(l))
		down := slices.Clone(l)
		slices.Reverse(down)
		orders := []ballots{l, down}
		for range 20 {
			orders = append(orders, from.shuffled(l), from.shuffled(slices.Concat(l, l[:len(l)/2])))
		}
		for _, mixed := range orders {
			if s := ships(t, holds(1, 5, ""), mixed...); s != want {
				t.Fatalf("the cargo of %s is %s", showList(mixed), showSide(s))
			}
		}
	}
}

// TestTheFirstVoteStays: of two votes for a transaction the one that came first is kept, and nothing changes it.
func TestTheFirstVoteStays(t *testing.T) {
	from := source(3)
	for range 300 {
		s := holds(uint8(from.next(8)), 1+from.next(lastEpoch), "")
		first := map[int]int{}
		for range 100 {
			b := ballot(from.next(60)*16, 1+from.next(2))
			next, e := ship(t, s, b)
			vote, is := first[b.Tx]
			switch {
			case !is && len(first) < 50 && e == api.OK:
				first[b.Tx] = b.Vote
			case is && vote == b.Vote && e == api.OK && next == s:
			case is && vote != b.Vote && e == api.ErrHave && next == s:
			case !is && len(first) == 50 && e == api.ErrFull && next == s:
			default:
				t.Fatalf("Ship(%s, %v) = %s, %d", showSide(s), b, showSide(next), e)
			}
			s = next
		}
	}
}

func TestShipOfExtremes(t *testing.T) {
	s := holds(1, 5, plainCargo(of(0, 999)))
	for _, b := range (ballots{{Tx: math.MinInt, Vote: 1}, {Tx: math.MaxInt, Vote: 1}, {Vote: math.MinInt}, {Vote: math.MaxInt}, {Tx: math.MinInt, Vote: math.MinInt}, {Tx: math.MaxInt, Vote: math.MaxInt}, {Tx: -1, Vote: 1}, {Tx: 1000, Vote: 1}, {}, {Tx: 999, Vote: 3}, {Tx: 7, Vote: -1}}) {
		shipFails(t, s, b, api.ErrArg)
	}
	becomes(t, nil, ballot(0, 1), ballots{ballot(0, 1)})
	becomes(t, nil, ballot(999, 2), ballots{ballot(999, 2)})
	becomes(t, of(1, 998), ballot(0, 2), append(ballots{ballot(0, 2)}, of(1, 998)...))
	becomes(t, of(1, 998), ballot(999, 1), append(of(1, 998), ballot(999, 1)))
}
