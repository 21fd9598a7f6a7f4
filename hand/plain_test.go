package hand_test

import (
	"fmt"
	"math"
	"slices"
	"strings"

	"waystation/api"
	"waystation/hand"
	"waystation/lease"
)

// last is the greatest epoch; it is written as a number, so that the tests do not go by the program's own limit.
const last = 1048576

var idle = lease.Lease{}

func held(epoch int) lease.Lease {
	return lease.Lease{Epoch: epoch, State: lease.Held}
}

func gone(epoch int, to uint8) lease.Lease {
	return lease.Lease{Epoch: epoch, State: lease.Gone, To: to}
}

// leaseOf is a lease of any fields, valid or not.
func leaseOf(epoch, state int, to uint8) lease.Lease {
	return lease.Lease{Epoch: epoch, State: state, To: to}
}

// idles, holds, gave and keeps are sides of each of the four sorts that there are.

func idles(me uint8) hand.Side { return hand.Side{Me: me} }

func holds(me uint8, epoch int, cargo string) hand.Side {
	return hand.Side{Me: me, Lease: held(epoch), Cargo: cargo}
}

func gave(me uint8, epoch int, to uint8) hand.Side {
	return hand.Side{Me: me, Lease: gone(epoch, to)}
}

func keeps(me uint8, epoch int, to uint8, cargo string) hand.Side {
	return hand.Side{Me: me, Lease: gone(epoch, to), Cargo: cargo, Keep: true}
}

// sideOf is a side of any fields, valid or not.
func sideOf(me uint8, l lease.Lease, cargo string, keep bool) hand.Side {
	return hand.Side{Me: me, Lease: l, Cargo: cargo, Keep: keep}
}

func msg(kind int, from, to uint8, epoch int, cargo string) hand.Msg {
	return hand.Msg{Kind: kind, From: from, To: to, Epoch: epoch, Cargo: cargo}
}

// bytesOf is a cargo of this many bytes. It is told apart from another one of as many bytes by its first one, and holds bytes that are no text.
func bytesOf(first byte, size int) string {
	if size == 0 {
		return ""
	}
	rest := strings.Repeat("\x00\xff\xc3", size/3+1)
	return string([]byte{first}) + rest[:size-1]
}

func showCargo(s string) string {
	if len(s) > 8 {
		return fmt.Sprintf("%q.. (%d)", s[:8], len(s))
	}
	return fmt.Sprintf("%q", s)
}

func showSide(s hand.Side) string {
	return fmt.Sprintf("{%d %v %s %t}", s.Me, s.Lease, showCargo(s.Cargo), s.Keep)
}

func showMsg(m hand.Msg) string {
	return fmt.Sprintf("{%d %d %d %d %s}", m.Kind, m.From, m.To, m.Epoch, showCargo(m.Cargo))
}

func showMsgs(l []hand.Msg) string {
	var s []string
	for _, m := range l {
		s = append(s, showMsg(m))
	}
	return "[" + strings.Join(s, " ") + "]"
}

// The numbers that the sides and the messages of the tests are made of: the edges, those beside them, and some that would be in range if they were cut short.

func stations() []uint8 { return []uint8{0, 1, 2, 6, 7, 8, 9, 128, 255} }

func kinds() []int {
	return []int{math.MinInt, -1, 0, 1, 2, 3, 4, 5, 6, 257, 260, math.MaxInt}
}

func epochs() []int {
	return []int{math.MinInt, -last, -1, 0, 1, 2, 4, 5, 6, 7, last - 2, last - 1, last, last + 1, 1<<32 + 5, math.MaxInt}
}

func sizes() []int { return []int{0, 1, 499, 500, 501, 65536} }

func leases(epochs []int, to []uint8) []lease.Lease {
	var l []lease.Lease
	for _, state := range []int{math.MinInt, -1, 0, 1, 2, 3, 257, math.MaxInt} {
		for _, epoch := range epochs {
			for _, to := range to {
				l = append(l, leaseOf(epoch, state, to))
			}
		}
	}
	return l
}

// allSides are those of all these numbers, valid or not.
func allSides() []hand.Side {
	var l []hand.Side
	for _, me := range stations() {
		for _, lease := range leases(epochs(), []uint8{0, 1, 7, 8, 255}) {
			for _, size := range []int{0, 1, 500, 501} {
				l = append(l, sideOf(me, lease, bytesOf('s', size), false), sideOf(me, lease, bytesOf('s', size), true))
			}
		}
	}
	return l
}

// validSides are all that are of these numbers.
func validSides() []hand.Side {
	var l []hand.Side
	epochs := []int{0, 1, 2, 5, 6, last - 1, last}
	for _, me := range []uint8{0, 1, 7} {
		for _, lease := range leases(epochs, []uint8{0, 1, 2, 7}) {
			for _, size := range []int{0, 1, 500} {
				l = append(l, sideOf(me, lease, bytesOf('s', size), false), sideOf(me, lease, bytesOf('s', size), true))
			}
		}
	}
	return slices.DeleteFunc(l, func(s hand.Side) bool { return !valid(s) })
}

// allMsgs are those of all these numbers, valid or not.
func allMsgs() []hand.Msg {
	var l []hand.Msg
	for _, kind := range kinds() {
		for _, from := range stations() {
			for _, to := range stations() {
				for _, epoch := range epochs() {
					for _, size := range []int{0, 1, 500, 501} {
						l = append(l, msg(kind, from, to, epoch, bytesOf('m', size)))
					}
				}
			}
		}
	}
	return l
}

// wrongSides are some that are not valid, most of them for one reason alone.
func wrongSides() []hand.Side {
	one, full, more := bytesOf('s', 1), bytesOf('s', 500), bytesOf('s', 501)
	return []hand.Side{
		idles(8), idles(9), idles(255), holds(8, 5, one), holds(255, 5, full), gave(8, 5, 7), gave(255, 5, 0), keeps(8, 5, 7, one), keeps(255, 5, 0, ""),
		gave(0, 5, 0), gave(1, 5, 1), gave(7, 5, 7), gave(7, last, 7), keeps(0, 1, 0, ""), keeps(1, 5, 1, one), keeps(7, last, 7, full),
		sideOf(1, idle, one, false), sideOf(1, idle, full, false), sideOf(1, idle, "", true), sideOf(1, idle, one, true),
		sideOf(1, held(5), "", true), sideOf(1, held(5), one, true), sideOf(1, held(last), full, true),
		sideOf(1, gone(5, 2), one, false), sideOf(1, gone(5, 2), full, false), sideOf(1, gone(last, 2), one, false),
		holds(1, 5, more), holds(1, last, more), holds(1, 5, bytesOf('s', 65536)), keeps(1, 5, 2, more), keeps(1, 5, 2, bytesOf('s', 65536)),
		sideOf(1, idle, more, false), sideOf(1, gone(5, 2), more, false),
		holds(1, 0, one), holds(1, -1, one), holds(1, last+1, one), holds(1, math.MinInt, ""), holds(1, math.MaxInt, ""),
		gave(1, 0, 2), gave(1, -1, 2), gave(1, last+1, 2), gave(1, 5, 8), gave(1, 5, 255), keeps(1, 0, 2, one), keeps(1, last+1, 2, one), keeps(1, 5, 8, one), keeps(1, 5, 255, ""),
		sideOf(1, leaseOf(5, lease.Idle, 0), "", false), sideOf(1, leaseOf(0, lease.Idle, 2), "", false),
		sideOf(1, leaseOf(5, lease.Held, 2), one, false), sideOf(1, leaseOf(5, 3, 0), "", false), sideOf(1, leaseOf(5, -1, 0), "", false), sideOf(1, leaseOf(0, 3, 0), "", false),
		sideOf(1, leaseOf(5, 3, 2), one, true), sideOf(1, leaseOf(5, 257, 0), one, false), sideOf(1, leaseOf(5, math.MaxInt, 2), "", false),
	}
}

// wrongMsgs are some to station 1 that are not valid, each for one reason alone.
func wrongMsgs() []hand.Msg {
	var l []hand.Msg
	for _, kind := range []int{math.MinInt, -4, -1, 0, 5, 6, 257, 258, 259, 260, math.MaxInt} {
		l = append(l, msg(kind, 2, 1, 5, ""))
	}
	for _, kind := range []int{hand.Offer, hand.Want, hand.Give, hand.Got} {
		for _, from := range []uint8{1, 8, 9, 10, 128, 255} {
			l = append(l, msg(kind, from, 1, 5, ""), msg(kind, from, 1, 6, ""))
		}
		for _, epoch := range []int{math.MinInt, -last, -5, -1, 0, last + 1, last + 5, 1<<32 + 5, math.MaxInt} {
			l = append(l, msg(kind, 2, 1, epoch, ""))
		}
		for _, size := range []int{1, 499, 500, 501, 65536} {
			if kind != hand.Give || size > 500 {
				l = append(l, msg(kind, 2, 1, 5, bytesOf('m', size)), msg(kind, 2, 1, 6, bytesOf('m', size)))
			}
		}
	}
	return l
}

// The chapter's words, one sentence after the other.

func validLease(l lease.Lease) bool {
	if l.State != 0 && l.State != 1 && l.State != 2 {
		return false
	}
	if l.State == 0 && l.Epoch != 0 {
		return false
	}
	if l.State != 0 && (l.Epoch < 1 || l.Epoch > last) {
		return false
	}
	if l.State == 2 {
		return l.To < 8
	}
	return l.To == 0
}

func valid(s hand.Side) bool {
	if s.Me >= 8 {
		return false
	}
	if !validLease(s.Lease) {
		return false
	}
	if s.Lease.State == 2 && s.Lease.To == s.Me {
		return false
	}
	if len(s.Cargo) > 500 {
		return false
	}
	if s.Cargo != "" && s.Lease.State != 1 && !s.Keep {
		return false
	}
	if s.Keep && s.Lease.State != 2 {
		return false
	}
	return true
}

func validMsg(m hand.Msg) bool {
	if m.Kind != 1 && m.Kind != 2 && m.Kind != 3 && m.Kind != 4 {
		return false
	}
	if m.From >= 8 || m.To >= 8 {
		return false
	}
	if m.From == m.To {
		return false
	}
	if m.Epoch < 1 || m.Epoch > last {
		return false
	}
	if m.Kind == 3 {
		return len(m.Cargo) <= 500
	}
	return m.Cargo == ""
}

func plainAsk(s hand.Side, to uint8) (hand.Msg, api.Errno) {
	if !valid(s) {
		return hand.Msg{}, api.ErrArg
	}
	if to >= 8 || to == s.Me {
		return hand.Msg{}, api.ErrArg
	}
	if s.Lease.State != 1 {
		return hand.Msg{}, api.ErrNone
	}
	if s.Lease.Epoch == last {
		return hand.Msg{}, api.ErrBig
	}
	return msg(1, s.Me, to, s.Lease.Epoch, ""), api.OK
}

func plainHear(s hand.Side, m hand.Msg) (hand.Side, []hand.Msg, api.Errno) {
	if !valid(s) || !validMsg(m) || m.To != s.Me {
		return s, nil, api.ErrArg
	}
	switch m.Kind {
	case 1:
		if s.Lease.Epoch >= m.Epoch {
			return s, nil, api.ErrOld
		}
		return s, []hand.Msg{msg(2, s.Me, m.From, m.Epoch, "")}, api.OK
	case 2:
		reply := []hand.Msg{msg(3, s.Me, m.From, m.Epoch+1, s.Cargo)}
		if s.Lease == held(m.Epoch) {
			if m.Epoch == last {
				return s, nil, api.ErrBig
			}
			return keeps(s.Me, m.Epoch, m.From, s.Cargo), reply, api.OK
		}
		if s.Lease == gone(m.Epoch, m.From) && s.Keep {
			return s, reply, api.OK
		}
		return s, nil, api.ErrOld
	case 3:
		reply := []hand.Msg{msg(4, s.Me, m.From, m.Epoch, "")}
		if s.Lease.Epoch < m.Epoch {
			return holds(s.Me, m.Epoch, m.Cargo), reply, api.OK
		}
		return s, reply, api.OK
	}
	if s.Lease == gone(m.Epoch-1, m.From) && s.Keep {
		return gave(s.Me, m.Epoch-1, m.From), nil, api.OK
	}
	return s, nil, api.ErrOld
}

func plainAgain(s hand.Side) []hand.Msg {
	if !valid(s) || !s.Keep {
		return nil
	}
	return []hand.Msg{msg(3, s.Me, s.Lease.To, s.Lease.Epoch+1, s.Cargo)}
}
