package tally_test

import (
	"math"
	"slices"
	"testing"

	"waystation/api"
	"waystation/tally"
)

// The calls, each made twice: what it answers hangs on its arguments alone.

func rightIs(t *testing.T, x tally.Tally, want bool) {
	t.Helper()
	for range 2 {
		if is := tally.Right(x); is != want {
			t.Fatalf("Right(%v) = %t, want %t", x, is, want)
		}
	}
}

func outcomeIs(t *testing.T, x tally.Tally, want int) {
	t.Helper()
	for range 2 {
		if n := tally.Outcome(x); n != want {
			t.Fatalf("Outcome(%v) = %d, want %d", x, n, want)
		}
	}
}

func hearIs(t *testing.T, x tally.Tally, who uint8, epoch int, want tally.Tally, e api.Errno) {
	t.Helper()
	for range 2 {
		if got, is := tally.Hear(x, who, epoch); got != want || is != e {
			t.Fatalf("Hear(%v, %d, %d) = %v, %d, want %v, %d", x, who, epoch, got, is, want, e)
		}
	}
}

func putIs(t *testing.T, x tally.Tally, who uint8, epoch, vote int, want tally.Tally, e api.Errno) {
	t.Helper()
	for range 2 {
		if got, is := tally.Put(x, who, epoch, vote); got != want || is != e {
			t.Fatalf("Put(%v, %d, %d, %d) = %v, %d, want %v, %d", x, who, epoch, vote, got, is, want, e)
		}
	}
}

// hearFails and putFails check an error, with which the tally comes back as it was.

func hearFails(t *testing.T, x tally.Tally, who uint8, epoch int, e api.Errno) {
	t.Helper()
	hearIs(t, x, who, epoch, x, e)
}

func putFails(t *testing.T, x tally.Tally, who uint8, epoch, vote int, e api.Errno) {
	t.Helper()
	putIs(t, x, who, epoch, vote, x, e)
}

// must is a tally that a call returned with OK.
func must(t *testing.T) func(tally.Tally, api.Errno) tally.Tally {
	return func(x tally.Tally, e api.Errno) tally.Tally {
		t.Helper()
		if e != api.OK {
			t.Fatalf("%v, %d", x, e)
		}
		return x
	}
}

func TestExample(t *testing.T) {
	x := must(t)(tally.New([]uint8{1, 2}))
	outcomeIs(t, x, open)
	x = must(t)(tally.Put(x, 1, 1, tally.Yes))
	outcomeIs(t, x, open)
	x = must(t)(tally.Put(x, 2, 1, tally.Yes))
	outcomeIs(t, x, commit)
	putFails(t, x, 2, 1, tally.No, api.ErrHave)
}

// TestFields: the fields in their order, and the arrays that they are.
func TestFields(t *testing.T) {
	type plain struct {
		Who    [8]bool
		Votes  [8]int
		Epochs [8]int
	}
	x := of(mobile{true, yes, 3}, mobile{in: true})
	want := plain{[8]bool{true, true}, [8]int{yes}, [8]int{3}}
	if got := plain(x); got != want {
		t.Errorf("%v, want %v", got, want)
	}
}

// TestNumbers: the numbers that the votes, the outcomes and the errors of this layer have.
func TestNumbers(t *testing.T) {
	if tally.None != none || tally.Yes != yes || tally.No != no {
		t.Errorf("the votes: %d, %d, %d", tally.None, tally.Yes, tally.No)
	}
	if api.Open != open || api.Commit != commit || api.Abort != abort {
		t.Errorf("the outcomes: %d, %d, %d", api.Open, api.Commit, api.Abort)
	}
	if got := []api.Errno{api.OK, api.ErrArg, api.ErrNone, api.ErrHave, api.ErrOld}; !slices.Equal(got, []api.Errno{0, 2, 7, 8, 10}) {
		t.Errorf("the errors: %v", got)
	}
	x := tally.Tally{}
	if len(x.Who) != mobiles || len(x.Votes) != mobiles || len(x.Epochs) != mobiles || api.MaxEpoch != lastEpoch {
		t.Errorf("the limits: %d, %d, %d, %d", len(x.Who), len(x.Votes), len(x.Epochs), api.MaxEpoch)
	}
}

// TestNumbersOfTheTests: the lists hold tallies of all kinds.
func TestNumbersOfTheTests(t *testing.T) {
	all, good := 0, 0
	outcomes := map[int]int{}
	for x := range allTallies {
		all++
		if valid(x) {
			good++
			outcomes[plainOutcome(x)]++
		}
	}
	if all < 70000 || good < 1000 || outcomes[open] < 200 || outcomes[commit] < 200 || outcomes[abort] < 200 {
		t.Errorf("%d tallies, %d of them valid, with the outcomes %v", all, good, outcomes)
	}
	for i, x := range bases() {
		if valid(x) != (i > 0) {
			t.Errorf("base %d: %v", i, x)
		}
	}
	for _, x := range wrongTallies() {
		if valid(x) {
			t.Errorf("%v is valid", x)
		}
	}
	eights := 0
	for range everyEight {
		eights++
	}
	if eights != 5*5*5*5*5*5*5*5 {
		t.Errorf("%d eights", eights)
	}
}

// P14.1

func TestRight(t *testing.T) {
	for id := range mobiles {
		for _, vote := range []int{none, yes, no} {
			for _, epoch := range []int{1, 2, 1000, lastEpoch - 1, lastEpoch} {
				rightIs(t, among(mobile{true, vote, epoch}, id), true)
			}
		}
		rightIs(t, among(mobile{in: true}, id), true)
	}
	for _, x := range bases()[1:] {
		rightIs(t, x, true)
	}
}

func TestRightOfWrongTallies(t *testing.T) {
	for _, x := range wrongTallies() {
		rightIs(t, x, false)
	}
}

func TestRightOfAll(t *testing.T) {
	for x := range allTallies {
		rightIs(t, x, valid(x))
	}
	for x := range everyEight {
		rightIs(t, x, valid(x))
	}
}

// TestRightOfTwo: what is wrong of one mobile is wrong whatever there is of another.
func TestRightOfTwo(t *testing.T) {
	var l []mobile
	for _, in := range []bool{false, true} {
		for _, vote := range []int{-1, none, yes, no, 3} {
			for _, epoch := range []int{-1, 0, 1, lastEpoch, lastEpoch + 1} {
				l = append(l, mobile{in, vote, epoch})
			}
		}
	}
	for one := range mobiles {
		for other := range one {
			for _, m := range l {
				for _, n := range l {
					x := with(among(m, one), other, n)
					rightIs(t, x, valid(x))
				}
			}
		}
	}
}

// P14.2

func TestHear(t *testing.T) {
	x := of(mobile{}, mobile{in: true}, mobile{true, none, 5}, mobile{true, yes, 5}, mobile{true, no, lastEpoch})
	for _, epoch := range []int{1, 2, lastEpoch - 1, lastEpoch} {
		hearIs(t, x, 1, epoch, with(x, 1, mobile{true, none, epoch}), api.OK)
	}
	for _, epoch := range []int{5, 6, lastEpoch} {
		hearIs(t, x, 2, epoch, with(x, 2, mobile{true, none, epoch}), api.OK)
		hearIs(t, x, 3, epoch, with(x, 3, mobile{true, yes, epoch}), api.OK)
	}
	hearIs(t, x, 4, lastEpoch, x, api.OK)
	for _, epoch := range []int{1, 2, 4} {
		hearFails(t, x, 2, epoch, api.ErrOld)
		hearFails(t, x, 3, epoch, api.ErrOld)
		hearFails(t, x, 4, epoch, api.ErrOld)
	}
	hearFails(t, x, 4, lastEpoch-1, api.ErrOld)
}

func TestPut(t *testing.T) {
	x := of(mobile{}, mobile{in: true}, mobile{true, none, 5}, mobile{true, none, lastEpoch})
	for _, vote := range []int{yes, no} {
		for _, epoch := range []int{1, 2, lastEpoch - 1, lastEpoch} {
			putIs(t, x, 1, epoch, vote, with(x, 1, mobile{true, vote, epoch}), api.OK)
		}
		for _, epoch := range []int{5, 6, lastEpoch} {
			putIs(t, x, 2, epoch, vote, with(x, 2, mobile{true, vote, epoch}), api.OK)
		}
		for _, epoch := range []int{1, 3, 4} {
			putFails(t, x, 2, epoch, vote, api.ErrOld)
		}
		putFails(t, x, 3, lastEpoch-1, vote, api.ErrOld)
		putIs(t, x, 3, lastEpoch, vote, with(x, 3, mobile{true, vote, lastEpoch}), api.OK)
	}
}

func TestEpochOutOfRange(t *testing.T) {
	for _, x := range bases() {
		for _, epoch := range epochs() {
			if epoch >= 1 && epoch <= lastEpoch {
				continue
			}
			for _, who := range ids() {
				hearFails(t, x, who, epoch, api.ErrArg)
				for _, vote := range votes() {
					putFails(t, x, who, epoch, vote, api.ErrArg)
				}
			}
		}
	}
}

func TestPutOfNoVote(t *testing.T) {
	for _, x := range bases() {
		for _, vote := range votes() {
			if vote == yes || vote == no {
				continue
			}
			for _, who := range ids() {
				for _, epoch := range epochs() {
					putFails(t, x, who, epoch, vote, api.ErrArg)
				}
			}
		}
	}
}

func TestNotTakingPart(t *testing.T) {
	x := of(mobile{true, yes, 3}, mobile{}, mobile{in: true}, mobile{true, no, 1})
	for _, who := range []uint8{1, 4, 5, 6, 7, 8, 9, 10, 16, 128, 130, 255} {
		for _, epoch := range []int{1, 2, lastEpoch} {
			hearFails(t, x, who, epoch, api.ErrNone)
			putFails(t, x, who, epoch, yes, api.ErrNone)
			putFails(t, x, who, epoch, no, api.ErrNone)
		}
	}
	for _, who := range []uint8{8, 255} {
		everyone := bases()[6]
		hearFails(t, everyone, who, 1, api.ErrNone)
		putFails(t, everyone, who, 1, yes, api.ErrNone)
	}
}

// TestSameVote: a vote that comes again is OK, and its epoch counts.
func TestSameVote(t *testing.T) {
	for _, vote := range []int{yes, no} {
		x := among(mobile{true, vote, 3}, 2, 6)
		putIs(t, x, 2, 3, vote, x, api.OK)
		putIs(t, x, 2, 4, vote, with(x, 2, mobile{true, vote, 4}), api.OK)
		putIs(t, x, 6, lastEpoch, vote, with(x, 6, mobile{true, vote, lastEpoch}), api.OK)
		putFails(t, x, 2, 2, vote, api.ErrOld)
	}
}

// TestOtherVote: the epoch of a vote that differs does not count.
func TestOtherVote(t *testing.T) {
	for _, vote := range []int{yes, no} {
		x := among(mobile{true, vote, 3}, 2, 6)
		other := yes + no - vote
		for _, epoch := range []int{3, 4, lastEpoch} {
			putFails(t, x, 2, epoch, other, api.ErrHave)
		}
		putFails(t, x, 2, 2, other, api.ErrOld)
		y, _ := tally.Put(x, 2, lastEpoch, other)
		hearIs(t, y, 2, 3, x, api.OK)
		putIs(t, y, 2, 3, vote, x, api.OK)
	}
}

func TestHearBeforeAndBehindVote(t *testing.T) {
	for _, vote := range []int{yes, no} {
		other := yes + no - vote
		x := must(t)(tally.New([]uint8{4, 5}))
		x = must(t)(tally.Hear(x, 4, 5))
		putFails(t, x, 4, 4, vote, api.ErrOld)
		x = must(t)(tally.Put(x, 4, 5, vote))
		hearFails(t, x, 4, 4, api.ErrOld)
		x = must(t)(tally.Hear(x, 4, 7))
		if x != with(among(mobile{in: true}, 5), 4, mobile{true, vote, 7}) {
			t.Fatalf("Hear behind a vote: %v", x)
		}
		putFails(t, x, 4, 6, vote, api.ErrOld)
		putFails(t, x, 4, 6, other, api.ErrOld)
		putFails(t, x, 4, 7, other, api.ErrHave)
		putIs(t, x, 4, 7, vote, x, api.OK)
		putIs(t, x, 5, 1, vote, with(x, 5, mobile{true, vote, 1}), api.OK)
	}
}

func TestCallsOfWrongTallies(t *testing.T) {
	for _, x := range wrongTallies() {
		for _, who := range []uint8{0, 1, 2, 7, 8, 255} {
			for _, epoch := range []int{0, 1, 5, lastEpoch} {
				hearFails(t, x, who, epoch, api.ErrArg)
				putFails(t, x, who, epoch, yes, api.ErrArg)
				putFails(t, x, who, epoch, no, api.ErrArg)
			}
		}
	}
}

// TestCallsOfAll: valid tallies with all arguments, and the others with arguments that are right of a valid one.
func TestCallsOfAll(t *testing.T) {
	for x := range allTallies {
		for who := range uint8(mobiles + 1) {
			want, e := plainHear(x, who, lastEpoch)
			hearIs(t, x, who, lastEpoch, want, e)
			want, e = plainPut(x, who, lastEpoch, yes)
			putIs(t, x, who, lastEpoch, yes, want, e)
		}
	}
	for x := range validTallies {
		for _, who := range ids() {
			for _, epoch := range epochs() {
				want, e := plainHear(x, who, epoch)
				hearIs(t, x, who, epoch, want, e)
				for _, vote := range []int{-1, none, yes, no, 3} {
					want, e = plainPut(x, who, epoch, vote)
					putIs(t, x, who, epoch, vote, want, e)
				}
			}
		}
	}
}

// TestFirstError: R2.
func TestFirstError(t *testing.T) {
	x := of(mobile{true, yes, 3}, mobile{in: true})
	wrong := with(x, 7, mobile{false, none, 1})
	// ErrArg comes ahead of ErrNone.
	for _, who := range []uint8{2, 7, 8, 255} {
		for _, epoch := range []int{math.MinInt, -1, 0, lastEpoch + 1, math.MaxInt} {
			hearFails(t, x, who, epoch, api.ErrArg)
			putFails(t, x, who, epoch, yes, api.ErrArg)
		}
		for _, vote := range []int{math.MinInt, -1, none, 3, math.MaxInt} {
			putFails(t, x, who, 1, vote, api.ErrArg)
		}
		hearFails(t, wrong, who, 1, api.ErrArg)
		putFails(t, wrong, who, 1, no, api.ErrArg)
	}
	// ErrArg comes ahead of ErrOld.
	hearFails(t, x, 0, 0, api.ErrArg)
	putFails(t, x, 0, 0, yes, api.ErrArg)
	putFails(t, x, 0, 2, none, api.ErrArg)
	putFails(t, x, 0, 2, 3, api.ErrArg)
	hearFails(t, wrong, 0, 2, api.ErrArg)
	putFails(t, wrong, 0, 2, yes, api.ErrArg)
	// ErrArg comes ahead of ErrHave.
	putFails(t, x, 0, lastEpoch+1, no, api.ErrArg)
	putFails(t, x, 0, 3, none, api.ErrArg)
	putFails(t, wrong, 0, 3, no, api.ErrArg)
	// ErrOld comes ahead of ErrHave.
	putFails(t, x, 0, 2, no, api.ErrOld)
	putFails(t, x, 0, 1, no, api.ErrOld)
}

// P14.3

func TestOutcome(t *testing.T) {
	silent, heard := mobile{in: true}, mobile{true, none, 9}
	ready, refused := mobile{true, yes, 2}, mobile{true, no, 2}
	for n := 1; n <= mobiles; n++ {
		var l []int
		for id := range n {
			l = append(l, (id*3+5)%mobiles)
		}
		outcomeIs(t, among(silent, l...), open)
		outcomeIs(t, among(heard, l...), open)
		outcomeIs(t, among(ready, l...), commit)
		outcomeIs(t, among(refused, l...), abort)
		for _, one := range l {
			outcomeIs(t, with(among(ready, l...), one, silent), open)
			outcomeIs(t, with(among(ready, l...), one, heard), open)
			outcomeIs(t, with(among(ready, l...), one, refused), abort)
			outcomeIs(t, with(among(silent, l...), one, refused), abort)
		}
	}
}

func TestOutcomeOfWrongTallies(t *testing.T) {
	for _, x := range wrongTallies() {
		outcomeIs(t, x, open)
	}
}

func TestOutcomeOfAll(t *testing.T) {
	for x := range allTallies {
		outcomeIs(t, x, plainOutcome(x))
	}
	for x := range everyEight {
		outcomeIs(t, x, plainOutcome(x))
	}
}
