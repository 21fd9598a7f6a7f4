package tally_test

import (
	"slices"
	"testing"

	"waystation/api"
	"waystation/tally"
)

// New, of P14.1.

func newIs(t *testing.T, who []uint8, want tally.Tally, e api.Errno) {
	t.Helper()
	given := slices.Clone(who)
	for range 2 {
		if x, is := tally.New(who); x != want || is != e {
			t.Fatalf("New(%v) = %v, %d, want %v, %d", given, x, is, want, e)
		}
	}
	if !slices.Equal(who, given) {
		t.Fatalf("New(%v) made it %v", given, who)
	}
}

func newFails(t *testing.T, who []uint8) {
	t.Helper()
	newIs(t, who, tally.Tally{}, api.ErrArg)
}

func TestNew(t *testing.T) {
	silent := mobile{in: true}
	for id := range uint8(mobiles) {
		newIs(t, []uint8{id}, among(silent, int(id)), api.OK)
	}
	newIs(t, []uint8{7, 0, 3}, among(silent, 0, 3, 7), api.OK)
	newIs(t, []uint8{0, 1, 2, 3, 4, 5, 6, 7}, among(silent, 0, 1, 2, 3, 4, 5, 6, 7), api.OK)
	newIs(t, []uint8{7, 6, 5, 4, 3, 2, 1, 0}, among(silent, 0, 1, 2, 3, 4, 5, 6, 7), api.OK)
}

func TestNewOfNobody(t *testing.T) {
	newFails(t, nil)
	newFails(t, []uint8{})
	newFails(t, []uint8{1, 2}[:0])
}

func TestNewOutOfRange(t *testing.T) {
	for id := 8; id < 256; id++ {
		newFails(t, []uint8{uint8(id)})
		newFails(t, []uint8{uint8(id), 1})
		newFails(t, []uint8{1, uint8(id)})
		newFails(t, []uint8{0, 1, 2, 3, 4, 5, 6, 7, uint8(id)})
		newFails(t, []uint8{uint8(id), uint8(id)})
	}
}

func TestNewOfOneTwice(t *testing.T) {
	all := []uint8{0, 1, 2, 3, 4, 5, 6, 7}
	for _, id := range all {
		newFails(t, []uint8{id, id})
		newFails(t, []uint8{id, id, id})
		for at := range len(all) + 1 {
			newFails(t, slices.Insert(slices.Clone(all), at, id))
		}
		for at := range all {
			if l := slices.Clone(all); l[at] != id {
				l[at] = id
				newFails(t, l)
			}
		}
	}
	newFails(t, slices.Repeat(all, 2))
	newFails(t, slices.Repeat(all, 100000))
	newFails(t, make([]uint8, 1<<20))
}

// TestNewOfAll: all lists of up to four numbers of the range and beside it.
func TestNewOfAll(t *testing.T) {
	var from func([]uint8)
	from = func(l []uint8) {
		want, e := plainNew(l)
		newIs(t, l, want, e)
		rightIs(t, want, e == api.OK)
		if len(l) == 4 {
			return
		}
		for _, id := range []uint8{0, 1, 2, 3, 4, 5, 6, 7, 8, 9, 16, 128, 248, 255} {
			from(append(slices.Clone(l), id))
		}
	}
	from(nil)
}

// TestNewInAnyOrder: all eight in all orders, and what each order begins with.
func TestNewInAnyOrder(t *testing.T) {
	for l := range orders(mobiles) {
		who := make([]uint8, mobiles)
		for i, id := range l {
			who[i] = uint8(id)
		}
		for n := 1; n <= mobiles; n++ {
			newIs(t, who[:n], among(mobile{in: true}, l[:n]...), api.OK)
		}
	}
}

// TestNewKeepsNothing: R6.
func TestNewKeepsNothing(t *testing.T) {
	who := []uint8{1, 2, 5}
	x := must(t)(tally.New(who))
	copy(who, []uint8{6, 6, 255})
	want := among(mobile{in: true}, 1, 2, 5)
	if x != want {
		t.Fatalf("written over, the list made it %v", x)
	}
	newFails(t, who)
	copy(who, []uint8{5, 1, 2})
	newIs(t, who, want, api.OK)
	y, e := tally.Put(x, 5, 1, yes)
	x.Who[3], x.Votes[5], x.Epochs[5] = true, no, 9
	if e != api.OK || y != with(want, 5, mobile{true, yes, 1}) {
		t.Fatalf("written over, the tally made it %v, %d", y, e)
	}
	// What stands behind a list is no part of it.
	long := []uint8{3, 4, 4, 255}
	newIs(t, long[:2], among(mobile{in: true}, 3, 4), api.OK)
	if !slices.Equal(long, []uint8{3, 4, 4, 255}) {
		t.Fatalf("New wrote behind its list: %v", long)
	}
}
