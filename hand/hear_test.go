package hand_test

import (
	"slices"
	"testing"

	"waystation/api"
	"waystation/hand"
)

// P12.2

func TestExample(t *testing.T) {
	a, b := holds(1, 1, "c"), idles(2)
	offer, e := hand.Ask(a, 2)
	if offer != msg(1, 1, 2, 1, "") || e != api.OK {
		t.Fatalf("Ask: %s, %d", showMsg(offer), e)
	}
	hearIs(t, b, offer, b, []hand.Msg{msg(2, 2, 1, 1, "")}, api.OK)
	hearIs(t, a, msg(2, 2, 1, 1, ""), keeps(1, 1, 2, "c"), []hand.Msg{msg(3, 1, 2, 2, "c")}, api.OK)
	hearIs(t, b, msg(3, 1, 2, 2, "c"), holds(2, 2, "c"), []hand.Msg{msg(4, 2, 1, 2, "")}, api.OK)
	hearIs(t, keeps(1, 1, 2, "c"), msg(4, 2, 1, 2, ""), gave(1, 1, 2), nil, api.OK)
}

// sidesIn are valid sides of station 1, of each sort but idle, in an epoch.
func sidesIn(epoch int) []hand.Side {
	return []hand.Side{
		holds(1, epoch, ""), holds(1, epoch, "c"), holds(1, epoch, bytesOf('s', 500)),
		gave(1, epoch, 0), gave(1, epoch, 2), gave(1, epoch, 7),
		keeps(1, epoch, 0, "c"), keeps(1, epoch, 2, ""), keeps(1, epoch, 2, "c"), keeps(1, epoch, 7, bytesOf('s', 500)),
	}
}

func TestOffer(t *testing.T) {
	for _, from := range []uint8{0, 2, 7} {
		for _, epoch := range []int{1, 2, 5, last - 1, last} {
			hearIs(t, idles(1), msg(hand.Offer, from, 1, epoch, ""), idles(1), []hand.Msg{msg(hand.Want, 1, from, epoch, "")}, api.OK)
		}
	}
	for _, s := range sidesIn(5) {
		for _, from := range []uint8{0, 2, 7} {
			for _, epoch := range []int{6, 7, 1000, last} {
				hearIs(t, s, msg(hand.Offer, from, 1, epoch, ""), s, []hand.Msg{msg(hand.Want, 1, from, epoch, "")}, api.OK)
			}
			for _, epoch := range []int{1, 2, 4, 5} {
				hearFails(t, s, msg(hand.Offer, from, 1, epoch, ""), api.ErrOld)
			}
		}
	}
}

func TestOfferAtTheEdges(t *testing.T) {
	for _, s := range sidesIn(1) {
		hearFails(t, s, msg(hand.Offer, 2, 1, 1, ""), api.ErrOld)
		hearIs(t, s, msg(hand.Offer, 2, 1, 2, ""), s, []hand.Msg{msg(hand.Want, 1, 2, 2, "")}, api.OK)
	}
	for _, s := range sidesIn(last - 1) {
		hearFails(t, s, msg(hand.Offer, 2, 1, last-1, ""), api.ErrOld)
		hearIs(t, s, msg(hand.Offer, 2, 1, last, ""), s, []hand.Msg{msg(hand.Want, 1, 2, last, "")}, api.OK)
	}
	for _, s := range sidesIn(last) {
		hearFails(t, s, msg(hand.Offer, 2, 1, last, ""), api.ErrOld)
		hearFails(t, s, msg(hand.Offer, 2, 1, 1, ""), api.ErrOld)
	}
}

func TestWantOfHeld(t *testing.T) {
	for _, from := range []uint8{0, 2, 7} {
		for _, epoch := range []int{1, 2, 5, last - 2, last - 1} {
			for _, size := range []int{0, 1, 499, 500} {
				s := holds(1, epoch, bytesOf('s', size))
				give := []hand.Msg{msg(hand.Give, 1, from, epoch+1, s.Cargo)}
				hearIs(t, s, msg(hand.Want, from, 1, epoch, ""), keeps(1, epoch, from, s.Cargo), give, api.OK)
				for _, other := range []int{1, 2, epoch - 1, epoch + 1, last - 1, last} {
					if other >= 1 && other != epoch {
						hearFails(t, s, msg(hand.Want, from, 1, other, ""), api.ErrOld)
					}
				}
			}
		}
	}
}

func TestWantInTheLastEpoch(t *testing.T) {
	for _, size := range []int{0, 1, 500} {
		s := holds(1, last, bytesOf('s', size))
		for _, from := range []uint8{0, 2, 7} {
			hearFails(t, s, msg(hand.Want, from, 1, last, ""), api.ErrBig)
			hearFails(t, s, msg(hand.Want, from, 1, last-1, ""), api.ErrOld)
			hearFails(t, s, msg(hand.Want, from, 1, 1, ""), api.ErrOld)
		}
	}
	for _, from := range []uint8{0, 2, 7} {
		hearFails(t, gave(1, last, 2), msg(hand.Want, from, 1, last, ""), api.ErrOld)
	}
	// No handoff leads to such a side, but it is valid, and the chapter names ErrBig for one that is Held alone.
	s := keeps(1, last, 2, "c")
	hearIs(t, s, msg(hand.Want, 2, 1, last, ""), s, []hand.Msg{msg(hand.Give, 1, 2, last+1, "c")}, api.OK)
	hearFails(t, s, msg(hand.Want, 3, 1, last, ""), api.ErrOld)
	hearFails(t, s, msg(hand.Want, 2, 1, last-1, ""), api.ErrOld)
}

func TestWantAgain(t *testing.T) {
	for _, to := range []uint8{0, 2, 7} {
		for _, epoch := range []int{1, 5, last - 1} {
			for _, size := range []int{0, 1, 500} {
				s := keeps(1, epoch, to, bytesOf('s', size))
				hearIs(t, s, msg(hand.Want, to, 1, epoch, ""), s, []hand.Msg{msg(hand.Give, 1, to, epoch+1, s.Cargo)}, api.OK)
				hearFails(t, s, msg(hand.Want, 3, 1, epoch, ""), api.ErrOld)
				hearFails(t, s, msg(hand.Want, to, 1, epoch+1, ""), api.ErrOld)
				if epoch > 1 {
					hearFails(t, s, msg(hand.Want, to, 1, epoch-1, ""), api.ErrOld)
				}
			}
			// Behind Got, the cargo is not there any more.
			hearFails(t, gave(1, epoch, to), msg(hand.Want, to, 1, epoch, ""), api.ErrOld)
			hearFails(t, gave(1, epoch, to), msg(hand.Want, 3, 1, epoch, ""), api.ErrOld)
			hearFails(t, gave(1, epoch, to), msg(hand.Want, to, 1, epoch+1, ""), api.ErrOld)
		}
	}
}

func TestWantOfIdle(t *testing.T) {
	for _, from := range []uint8{0, 2, 7} {
		for _, epoch := range []int{1, 2, 5, last - 1, last} {
			hearFails(t, idles(1), msg(hand.Want, from, 1, epoch, ""), api.ErrOld)
		}
	}
}

func TestGive(t *testing.T) {
	for _, from := range []uint8{0, 2, 7} {
		for _, size := range []int{0, 1, 499, 500} {
			cargo := bytesOf('m', size)
			for _, epoch := range []int{1, 2, 5, last - 1, last} {
				hearIs(t, idles(1), msg(hand.Give, from, 1, epoch, cargo), holds(1, epoch, cargo), []hand.Msg{msg(hand.Got, 1, from, epoch, "")}, api.OK)
			}
			for _, s := range sidesIn(5) {
				for _, epoch := range []int{6, 7, 1000, last} {
					hearIs(t, s, msg(hand.Give, from, 1, epoch, cargo), holds(1, epoch, cargo), []hand.Msg{msg(hand.Got, 1, from, epoch, "")}, api.OK)
				}
			}
		}
	}
}

// TestGiveAgain: what came already, in this epoch or ahead of it, is told to have come, and changes nothing.
func TestGiveAgain(t *testing.T) {
	for _, from := range []uint8{0, 2, 7} {
		for _, cargo := range []string{"", "c", "d", bytesOf('m', 500)} {
			for _, s := range sidesIn(5) {
				for _, epoch := range []int{1, 2, 4, 5} {
					hearIs(t, s, msg(hand.Give, from, 1, epoch, cargo), s, []hand.Msg{msg(hand.Got, 1, from, epoch, "")}, api.OK)
				}
			}
			for _, s := range sidesIn(1) {
				hearIs(t, s, msg(hand.Give, from, 1, 1, cargo), s, []hand.Msg{msg(hand.Got, 1, from, 1, "")}, api.OK)
				hearIs(t, s, msg(hand.Give, from, 1, 2, cargo), holds(1, 2, cargo), []hand.Msg{msg(hand.Got, 1, from, 2, "")}, api.OK)
			}
			for _, s := range sidesIn(last) {
				for _, epoch := range []int{1, last - 1, last} {
					hearIs(t, s, msg(hand.Give, from, 1, epoch, cargo), s, []hand.Msg{msg(hand.Got, 1, from, epoch, "")}, api.OK)
				}
			}
			for _, s := range sidesIn(last - 1) {
				hearIs(t, s, msg(hand.Give, from, 1, last, cargo), holds(1, last, cargo), []hand.Msg{msg(hand.Got, 1, from, last, "")}, api.OK)
			}
		}
	}
}

func TestGot(t *testing.T) {
	for _, to := range []uint8{0, 2, 7} {
		for _, epoch := range []int{1, 2, 5, last - 2, last - 1} {
			for _, size := range []int{0, 1, 500} {
				s := keeps(1, epoch, to, bytesOf('s', size))
				hearIs(t, s, msg(hand.Got, to, 1, epoch+1, ""), gave(1, epoch, to), nil, api.OK)
				hearFails(t, s, msg(hand.Got, 3, 1, epoch+1, ""), api.ErrOld)
				for _, other := range []int{1, epoch - 1, epoch, epoch + 2, last} {
					if other >= 1 && other <= last && other != epoch+1 {
						hearFails(t, s, msg(hand.Got, to, 1, other, ""), api.ErrOld)
					}
				}
				// It came once, and comes again.
				hearFails(t, gave(1, epoch, to), msg(hand.Got, to, 1, epoch+1, ""), api.ErrOld)
				hearFails(t, holds(1, epoch, s.Cargo), msg(hand.Got, to, 1, epoch+1, ""), api.ErrOld)
				hearFails(t, holds(1, epoch+1, s.Cargo), msg(hand.Got, to, 1, epoch+1, ""), api.ErrOld)
			}
		}
	}
}

func TestGotAtTheEdges(t *testing.T) {
	for _, epoch := range []int{1, 2, 5, last} {
		hearFails(t, idles(1), msg(hand.Got, 2, 1, epoch, ""), api.ErrOld)
	}
	// There is no epoch 0, and none behind the last one.
	for _, s := range sidesIn(1) {
		hearFails(t, s, msg(hand.Got, 2, 1, 1, ""), api.ErrOld)
	}
	for _, s := range sidesIn(last) {
		hearFails(t, s, msg(hand.Got, 2, 1, last, ""), api.ErrOld)
		hearFails(t, s, msg(hand.Got, 2, 1, last+1, ""), api.ErrArg)
	}
}

// TestHandoffsOfOneStation: the agency goes, comes back, and goes elsewhere; what was of elder epochs stays over.
func TestHandoffsOfOneStation(t *testing.T) {
	s := holds(1, 1, "a")
	for _, x := range []struct {
		m     hand.Msg
		want  hand.Side
		reply []hand.Msg
		e     api.Errno
	}{
		{msg(hand.Want, 2, 1, 1, ""), keeps(1, 1, 2, "a"), []hand.Msg{msg(hand.Give, 1, 2, 2, "a")}, api.OK},
		{msg(hand.Want, 3, 1, 1, ""), keeps(1, 1, 2, "a"), nil, api.ErrOld},
		{msg(hand.Want, 2, 1, 1, ""), keeps(1, 1, 2, "a"), []hand.Msg{msg(hand.Give, 1, 2, 2, "a")}, api.OK},
		{msg(hand.Offer, 2, 1, 2, ""), keeps(1, 1, 2, "a"), []hand.Msg{msg(hand.Want, 1, 2, 2, "")}, api.OK},
		// The agency is back before Got comes, which is late then.
		{msg(hand.Give, 2, 1, 3, "b"), holds(1, 3, "b"), []hand.Msg{msg(hand.Got, 1, 2, 3, "")}, api.OK},
		{msg(hand.Got, 2, 1, 2, ""), holds(1, 3, "b"), nil, api.ErrOld},
		{msg(hand.Want, 2, 1, 1, ""), holds(1, 3, "b"), nil, api.ErrOld},
		{msg(hand.Offer, 2, 1, 2, ""), holds(1, 3, "b"), nil, api.ErrOld},
		{msg(hand.Want, 3, 1, 3, ""), keeps(1, 3, 3, "b"), []hand.Msg{msg(hand.Give, 1, 3, 4, "b")}, api.OK},
		{msg(hand.Give, 2, 1, 3, "b"), keeps(1, 3, 3, "b"), []hand.Msg{msg(hand.Got, 1, 2, 3, "")}, api.OK},
		{msg(hand.Got, 2, 1, 2, ""), keeps(1, 3, 3, "b"), nil, api.ErrOld},
		{msg(hand.Got, 2, 1, 4, ""), keeps(1, 3, 3, "b"), nil, api.ErrOld},
		{msg(hand.Got, 3, 1, 4, ""), gave(1, 3, 3), nil, api.OK},
		{msg(hand.Got, 3, 1, 4, ""), gave(1, 3, 3), nil, api.ErrOld},
		{msg(hand.Want, 3, 1, 3, ""), gave(1, 3, 3), nil, api.ErrOld},
		{msg(hand.Give, 2, 1, 3, "b"), gave(1, 3, 3), []hand.Msg{msg(hand.Got, 1, 2, 3, "")}, api.OK},
		{msg(hand.Give, 5, 1, 9, ""), holds(1, 9, ""), []hand.Msg{msg(hand.Got, 1, 5, 9, "")}, api.OK},
	} {
		hearIs(t, s, x.m, x.want, x.reply, x.e)
		s = x.want
	}
}

// TestWrongMessages: none of them is heard, by a side of whatever sort.
func TestWrongMessages(t *testing.T) {
	for _, m := range wrongMsgs() {
		hearFails(t, idles(1), m, api.ErrArg)
		for _, epoch := range []int{1, 4, 5, 6, last} {
			for _, s := range sidesIn(epoch) {
				hearFails(t, s, m, api.ErrArg)
			}
		}
	}
}

// TestMessageToAnother: each of these would be heard by a station with the number that stands in it.
func TestMessageToAnother(t *testing.T) {
	for _, me := range []uint8{0, 1, 7} {
		for to := range 256 {
			to := uint8(to)
			if to == me {
				continue
			}
			for _, from := range []uint8{0, 1, 2, 7} {
				hearFails(t, idles(me), msg(hand.Offer, from, to, 5, ""), api.ErrArg)
				hearFails(t, holds(me, 5, "c"), msg(hand.Want, from, to, 5, ""), api.ErrArg)
				hearFails(t, keeps(me, 5, (me+1)%8, "c"), msg(hand.Want, (me+1)%8, to, 5, ""), api.ErrArg)
				hearFails(t, idles(me), msg(hand.Give, from, to, 5, "c"), api.ErrArg)
				hearFails(t, holds(me, 5, "c"), msg(hand.Give, from, to, 5, "c"), api.ErrArg)
				hearFails(t, keeps(me, 5, (me+1)%8, "c"), msg(hand.Got, (me+1)%8, to, 6, ""), api.ErrArg)
			}
		}
	}
}

// TestMessageFromEach: of 256 stations, only the other seven are heard.
func TestMessageFromEach(t *testing.T) {
	for from := range 256 {
		from := uint8(from)
		if from < 8 && from != 1 {
			hearIs(t, idles(1), msg(hand.Offer, from, 1, 5, ""), idles(1), []hand.Msg{msg(hand.Want, 1, from, 5, "")}, api.OK)
			hearIs(t, holds(1, 5, "c"), msg(hand.Want, from, 1, 5, ""), keeps(1, 5, from, "c"), []hand.Msg{msg(hand.Give, 1, from, 6, "c")}, api.OK)
			hearIs(t, idles(1), msg(hand.Give, from, 1, 5, "c"), holds(1, 5, "c"), []hand.Msg{msg(hand.Got, 1, from, 5, "")}, api.OK)
			hearIs(t, keeps(1, 5, from, "c"), msg(hand.Got, from, 1, 6, ""), gave(1, 5, from), nil, api.OK)
			continue
		}
		hearFails(t, idles(1), msg(hand.Offer, from, 1, 5, ""), api.ErrArg)
		hearFails(t, holds(1, 5, "c"), msg(hand.Want, from, 1, 5, ""), api.ErrArg)
		hearFails(t, idles(1), msg(hand.Give, from, 1, 5, "c"), api.ErrArg)
		hearFails(t, holds(1, 5, "c"), msg(hand.Got, from, 1, 6, ""), api.ErrArg)
	}
}

// TestHearOfWrongSides: they come back as they are, whatever they are.
func TestHearOfWrongSides(t *testing.T) {
	for _, s := range wrongSides() {
		for _, kind := range kinds() {
			for _, from := range []uint8{0, 1, 2, 7, 255} {
				for _, epoch := range []int{0, 1, 4, 5, 6, last, last + 1} {
					hearFails(t, s, msg(kind, from, s.Me, epoch, ""), api.ErrArg)
					hearFails(t, s, msg(kind, from, 1, epoch, "m"), api.ErrArg)
				}
			}
		}
	}
}

// TestFirstErrorOfHear: R2. ErrArg comes ahead of ErrOld and ErrBig.
func TestFirstErrorOfHear(t *testing.T) {
	hearFails(t, holds(1, 5, "c"), msg(hand.Offer, 2, 1, 5, "x"), api.ErrArg)
	hearFails(t, holds(1, 5, "c"), msg(hand.Offer, 1, 1, 5, ""), api.ErrArg)
	hearFails(t, holds(1, 5, "c"), msg(hand.Offer, 2, 3, 5, ""), api.ErrArg)
	hearFails(t, holds(1, 5, "c"), msg(hand.Offer, 2, 1, 0, ""), api.ErrArg)
	hearFails(t, sideOf(1, held(5), "c", true), msg(hand.Offer, 2, 1, 5, ""), api.ErrArg)
	hearFails(t, holds(1, last, "c"), msg(hand.Want, 2, 1, last, "x"), api.ErrArg)
	hearFails(t, holds(1, last, "c"), msg(hand.Want, 2, 3, last, ""), api.ErrArg)
	hearFails(t, holds(1, last, "c"), msg(hand.Want, 8, 1, last, ""), api.ErrArg)
	hearFails(t, holds(1, last+1, "c"), msg(hand.Want, 2, 1, last+1, ""), api.ErrArg)
	hearFails(t, holds(8, last, "c"), msg(hand.Want, 2, 8, last, ""), api.ErrArg)
	hearFails(t, gave(1, 5, 1), msg(hand.Want, 2, 1, 4, ""), api.ErrArg)
	hearFails(t, gave(1, 5, 2), msg(hand.Got, 2, 1, 6, "x"), api.ErrArg)
	hearFails(t, idles(1), msg(hand.Got, 2, 1, 0, ""), api.ErrArg)
}

func TestHearOfValidSides(t *testing.T) {
	msgs := allMsgs()
	for i, s := range validSides() {
		// Each valid message, and a part of the others, which is another part for each side.
		for k, m := range msgs {
			if validMsg(m) && m.To == s.Me || k%97 == i%97 {
				want, reply, e := plainHear(s, m)
				hearIs(t, s, m, want, reply, e)
			}
		}
	}
}

func TestHearOfAllSides(t *testing.T) {
	for _, s := range allSides() {
		for _, kind := range []int{0, hand.Offer, hand.Want, hand.Give, hand.Got, 5} {
			for _, epoch := range []int{s.Lease.Epoch - 1, s.Lease.Epoch, s.Lease.Epoch + 1} {
				for _, from := range []uint8{s.Lease.To, 3} {
					m := msg(kind, from, s.Me, epoch, "")
					want, reply, e := plainHear(s, m)
					hearIs(t, s, m, want, reply, e)
				}
			}
		}
	}
}

// TestHearOfAllMessages: by one side of each sort.
func TestHearOfAllMessages(t *testing.T) {
	for _, s := range []hand.Side{idles(1), holds(1, 5, "s"), gave(1, 5, 2), keeps(1, 5, 2, "s"), keeps(7, 5, 0, ""), holds(0, last, "")} {
		for _, m := range allMsgs() {
			want, reply, e := plainHear(s, m)
			hearIs(t, s, m, want, reply, e)
		}
	}
}

// TestHearStaysValid: a valid side becomes a valid one, and what it says is valid, from it, and to whom it heard; except in the last epoch, behind which there is none.
func TestHearStaysValid(t *testing.T) {
	msgs := slices.DeleteFunc(allMsgs(), func(m hand.Msg) bool { return !validMsg(m) })
	for _, s := range validSides() {
		for _, m := range msgs {
			next, reply, e := hand.Hear(s, m)
			if !hand.Right(next) || next.Me != s.Me || next.Lease.Epoch < s.Lease.Epoch {
				t.Fatalf("Hear(%s, %s) = %s", showSide(s), showMsg(m), showSide(next))
			}
			if e != api.OK && (next != s || len(reply) > 0) {
				t.Fatalf("Hear(%s, %s) = %s, %s, %d", showSide(s), showMsg(m), showSide(next), showMsgs(reply), e)
			}
			for _, r := range reply {
				if r.From != s.Me || r.To != m.From || !validMsg(r) && r.Epoch != last+1 {
					t.Fatalf("Hear(%s, %s) = %s", showSide(s), showMsg(m), showMsgs(reply))
				}
			}
		}
	}
}
