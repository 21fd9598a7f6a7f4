package tally_test

import (
	"math"

	"waystation/api"
	"waystation/tally"
)

// The limits and the votes are written as numbers, so that the tests do not go by the program's own ones.
const (
	lastEpoch = 1048576
	mobiles   = 8

	none = 0
	yes  = 1
	no   = 2

	open   = 0
	commit = 1
	abort  = 2
)

// mobile is what a tally has of one.
type mobile struct {
	in          bool
	vote, epoch int
}

func with(t tally.Tally, id int, m mobile) tally.Tally {
	t.Who[id], t.Votes[id], t.Epochs[id] = m.in, m.vote, m.epoch
	return t
}

// of is the tally of the mobiles 0, 1, 2 and so on, valid or not.
func of(l ...mobile) tally.Tally {
	var t tally.Tally
	for id, m := range l {
		t = with(t, id, m)
	}
	return t
}

// among is the tally of some mobiles that are all alike.
func among(m mobile, ids ...int) tally.Tally {
	var t tally.Tally
	for _, id := range ids {
		t = with(t, id, m)
	}
	return t
}

// The numbers that the tallies and the arguments of the tests are made of: the edges, those beside them, and some that would be in range if they were cut short.

func votes() []int {
	l := []int{math.MinInt, math.MinInt + 1, -256, -2, -1, 0, 1, 2, 3, 4, 255, 256, 257, 258, 65537, math.MaxInt - 1, math.MaxInt}
	return append(l, cut(1<<32), cut(1<<32+1), cut(1<<32+2))
}

func epochs() []int {
	l := []int{math.MinInt, math.MinInt + 1, -lastEpoch, -2, -1, 0, 1, 2, 3, 4, 5, 6, 255, 256, 257}
	l = append(l, lastEpoch-1, lastEpoch, lastEpoch+1, lastEpoch+2, 2*lastEpoch, math.MaxInt32, math.MaxInt-1, math.MaxInt)
	return append(l, cut(1<<32), cut(1<<32+1))
}

// cut is a number that an int may be too short for.
func cut(n int64) int { return int(n) }

func ids() []uint8 {
	return []uint8{0, 1, 2, 3, 4, 5, 6, 7, 8, 9, 15, 16, 127, 128, 135, 248, 254, 255}
}

// states are all that a tally may have of one mobile, rightly or not.
func states(yield func(mobile) bool) {
	for _, in := range []bool{false, true} {
		for _, vote := range votes() {
			for _, epoch := range epochs() {
				if !yield(mobile{in, vote, epoch}) {
					return
				}
			}
		}
	}
}

// bases are tallies of nobody, of one, of some and of all; all but the first are valid.
func bases() []tally.Tally {
	heard, ready, refused := mobile{true, none, 4}, mobile{true, yes, 3}, mobile{true, no, 5}
	silent, out := mobile{in: true}, mobile{}
	return []tally.Tally{
		{},
		of(silent),
		among(ready, 7),
		of(out, ready, silent),
		of(out, ready, ready, out, heard, out, out, silent),
		of(refused, out, heard, ready, out, ready, out, out),
		of(silent, silent, silent, silent, silent, silent, silent, silent),
		of(ready, ready, ready, ready, ready, ready, ready, ready),
		of(ready, heard, ready, silent, refused, ready, mobile{true, yes, lastEpoch}, mobile{true, no, 1}),
		of(mobile{true, yes, 1}, out, out, mobile{true, no, lastEpoch}, mobile{true, none, lastEpoch}, mobile{true, none, 1}),
	}
}

// allTallies are the bases, each with one mobile that is in each of the states.
func allTallies(yield func(tally.Tally) bool) {
	for _, base := range bases() {
		for id := range mobiles {
			for m := range states {
				if !yield(with(base, id, m)) {
					return
				}
			}
		}
	}
}

func validTallies(yield func(tally.Tally) bool) {
	for x := range allTallies {
		if valid(x) && !yield(x) {
			return
		}
	}
}

// everyEight are all tallies whose mobiles are each in one of five states: without a vote or an epoch, heard, for it, against it, and not in it.
func everyEight(yield func(tally.Tally) bool) {
	l := []mobile{{}, {in: true}, {true, none, 2}, {true, yes, 1}, {true, no, 3}}
	var from func(tally.Tally, int) bool
	from = func(x tally.Tally, id int) bool {
		if id == mobiles {
			return yield(x)
		}
		for _, m := range l {
			if !from(with(x, id, m), id+1) {
				return false
			}
		}
		return true
	}
	from(tally.Tally{}, 0)
}

// wrongMobiles are states that no mobile of a valid tally is in, most of them for one reason alone.
func wrongMobiles() []mobile {
	return []mobile{
		{true, -1, 1}, {true, 3, 1}, {true, math.MinInt, 1}, {true, math.MaxInt, 1}, {true, 256, 1}, {true, 257, 5}, {true, -1, 0}, {true, 3, 0},
		{true, none, -1}, {true, none, lastEpoch + 1}, {true, none, math.MinInt}, {true, none, math.MaxInt},
		{true, yes, -1}, {true, yes, lastEpoch + 1}, {true, yes, math.MinInt}, {true, yes, math.MaxInt},
		{true, no, -1}, {true, no, lastEpoch + 1}, {true, no, math.MinInt}, {true, no, math.MaxInt},
		{true, yes, 0}, {true, no, 0},
		{false, yes, 1}, {false, no, 1}, {false, yes, 0}, {false, no, 0}, {false, -1, 0}, {false, 3, 0},
		{false, none, 1}, {false, none, lastEpoch}, {false, none, -1}, {false, none, lastEpoch + 1}, {false, none, math.MinInt}, {false, none, math.MaxInt},
		{false, math.MinInt, math.MinInt}, {true, math.MaxInt, math.MaxInt},
	}
}

// wrongTallies are that of nobody, and each of the bases with each of the mobiles wrong.
func wrongTallies() []tally.Tally {
	l := []tally.Tally{{}}
	for _, base := range bases() {
		for id := range mobiles {
			for _, m := range wrongMobiles() {
				l = append(l, with(base, id, m))
			}
		}
	}
	return l
}

// The chapter's words, one sentence after the other.

func valid(t tally.Tally) bool {
	some := false
	for id := range mobiles {
		some = some || t.Who[id]
	}
	if !some {
		return false
	}
	for id := range mobiles {
		v, n := t.Votes[id], t.Epochs[id]
		if v != none && v != yes && v != no {
			return false
		}
		if n < 0 || n > lastEpoch {
			return false
		}
		if !t.Who[id] && (v != none || n != 0) {
			return false
		}
		if v != none && n < 1 {
			return false
		}
	}
	return true
}

func plainNew(who []uint8) (tally.Tally, api.Errno) {
	if len(who) == 0 {
		return tally.Tally{}, api.ErrArg
	}
	for i, id := range who {
		if id > 7 {
			return tally.Tally{}, api.ErrArg
		}
		for _, other := range who[:i] {
			if other == id {
				return tally.Tally{}, api.ErrArg
			}
		}
	}
	var t tally.Tally
	for _, id := range who {
		t.Who[id] = true
	}
	return t, api.OK
}

// refusal is the error that Hear and Put have in common, if vote is right.
func refusal(t tally.Tally, who uint8, epoch int) api.Errno {
	if !valid(t) {
		return api.ErrArg
	}
	if epoch < 1 || epoch > lastEpoch {
		return api.ErrArg
	}
	if who > 7 || !t.Who[who] {
		return api.ErrNone
	}
	if epoch < t.Epochs[who] {
		return api.ErrOld
	}
	return api.OK
}

func plainHear(t tally.Tally, who uint8, epoch int) (tally.Tally, api.Errno) {
	if e := refusal(t, who, epoch); e != api.OK {
		return t, e
	}
	return with(t, int(who), mobile{true, t.Votes[who], epoch}), api.OK
}

func plainPut(t tally.Tally, who uint8, epoch, vote int) (tally.Tally, api.Errno) {
	if vote != yes && vote != no {
		return t, api.ErrArg
	}
	if e := refusal(t, who, epoch); e != api.OK {
		return t, e
	}
	if t.Votes[who] == yes && vote == no {
		return t, api.ErrHave
	}
	if t.Votes[who] == no && vote == yes {
		return t, api.ErrHave
	}
	return with(t, int(who), mobile{true, vote, epoch}), api.OK
}

func plainOutcome(t tally.Tally) int {
	if !valid(t) {
		return open
	}
	all := true
	for id := range mobiles {
		if t.Votes[id] == no {
			return abort
		}
		if t.Who[id] && t.Votes[id] != yes {
			all = false
		}
	}
	if all {
		return commit
	}
	return open
}
