package party_test

import (
	"fmt"
	"math"
	"slices"
	"strings"

	"waystation/api"
	"waystation/party"
)

// The limits are written as numbers, so that the tests do not go by the program's own ones.
const (
	lastNumber = 1048576
	mostRoom   = 100
	longest    = 500
)

type packets = []party.Packet

// outOf is a sender of any fields, valid or not.
func outOf(next, room int, wait ...party.Packet) party.Out {
	return party.Out{Next: next, Wait: wait, Room: room}
}

// packet has a text that no packet of another number has.
func packet(seq int) party.Packet {
	return party.Packet{Seq: seq, Text: fmt.Sprint("no. ", seq)}
}

// numbered are packets with these numbers.
func numbered(seqs ...int) packets {
	var l packets
	for _, seq := range seqs {
		l = append(l, packet(seq))
	}
	return l
}

// upTo are the n packets that end ahead of next. Below 0, they are numbered all the same.
func upTo(next, n int) packets {
	var l packets
	for i := range n {
		l = append(l, packet(next-n+i))
	}
	return l
}

// waiting is a sender that has said up to next, and waits for the last n packets.
func waiting(next, n, room int) party.Out {
	return outOf(next, room, upTo(next, n)...)
}

// bytesOf is a text of so many bytes, some of which are no UTF-8.
func bytesOf(size int) string {
	return strings.Repeat("a\x00\xff\xc3b", size/5+1)[:size]
}

func same(a, b party.Out) bool {
	return a.Next == b.Next && a.Room == b.Room && slices.Equal(a.Wait, b.Wait)
}

func showText(s string) string {
	if len(s) > 12 {
		return fmt.Sprintf("%q.. (%d)", s[:12], len(s))
	}
	return fmt.Sprintf("%q", s)
}

func showPacket(p party.Packet) string {
	return fmt.Sprintf("%d %s", p.Seq, showText(p.Text))
}

func showOut(o party.Out) string {
	var l []string
	for i, p := range o.Wait {
		if i < 3 || i >= len(o.Wait)-3 {
			l = append(l, showPacket(p))
		}
	}
	return fmt.Sprintf("{Next %d, Room %d, %d wait: %s}", o.Next, o.Room, len(o.Wait), strings.Join(l, ", "))
}

// The numbers and texts that the tests are made of: the edges, those beside them, and some that would be in range if they were cut short.

func distinct(l ...int) []int {
	slices.Sort(l)
	return slices.Compact(l)
}

func numbers() []int {
	l := []int{math.MinInt, math.MinInt + 1, -lastNumber, -2, -1, 0, 1, 2, 3, 5, 99, 100, 101, 256, 65536}
	l = append(l, lastNumber-1, lastNumber, lastNumber+1, 2*lastNumber, math.MaxInt32, math.MaxInt-1, math.MaxInt)
	for _, n := range []int64{1 << 31, 1 << 32, 1<<32 + 3, 1 << 62} {
		l = append(l, int(n))
	}
	return distinct(l...)
}

func rooms() []int {
	l := []int{math.MinInt, -100, -1, 0, 1, 2, 3, 50, 99, 100, 101, 200, 255, 256, 257, math.MaxInt}
	for _, n := range []int64{1 << 32, 1<<32 + 3} {
		l = append(l, int(n))
	}
	return distinct(l...)
}

func texts() []string {
	l := []string{"", "a", "\xff", "\x00", "no. 7", "\u00e9", bytesOf(499), bytesOf(500), bytesOf(501), bytesOf(512), bytesOf(65536), bytesOf(65537)}
	return append(l, signsOf(499), signsOf(500), signsOf(501), signsOf(1000))
}

// signsOf is a text of so many bytes, and of about half as many letters.
func signsOf(size int) string {
	return strings.Repeat("a", size%2) + strings.Repeat("\u00e9", size/2)
}

// waits are lists that a sender of that next and room may wait for, and lists that are wrong at one place.
func waits(next, room int) []packets {
	var l []packets
	for _, n := range distinct(0, 1, 2, 3, min(max(room, 0), 300), min(max(room, 0), 300)+1) {
		right := upTo(next, n)
		l = append(l, right)
		for _, at := range placesOf(right) {
			l = append(l, faulty(right, at)...)
		}
		for _, by := range []int{-2, -1, 1, 2} {
			l = append(l, upTo(next+by, n))
		}
	}
	return l
}

// placesOf are the first, a middle and the last place of a list.
func placesOf(l packets) []int {
	if len(l) == 0 {
		return nil
	}
	return distinct(0, len(l)/2, len(l)-1)
}

// faulty are lists that differ from one at a place: in a number, by a packet that is left out or stands twice, in the order, and in texts, which may be wrong or not.
func faulty(l packets, at int) []packets {
	var all []packets
	change := func(p party.Packet) {
		other := slices.Clone(l)
		other[at] = p
		all = append(all, other)
	}
	for _, seq := range []int{l[at].Seq - 1, l[at].Seq + 1, -1, 0, math.MinInt, math.MaxInt} {
		change(party.Packet{Seq: seq, Text: l[at].Text})
	}
	for _, size := range []int{0, 1, 499, 500, 501} {
		change(party.Packet{Seq: l[at].Seq, Text: bytesOf(size)})
	}
	all = append(all, slices.Delete(slices.Clone(l), at, at+1))
	all = append(all, slices.Insert(slices.Clone(l), at, l[at]))
	if at > 0 {
		other := slices.Clone(l)
		other[at-1], other[at] = other[at], other[at-1]
		all = append(all, other)
	}
	return all
}

// allOuts are those of all these numbers and lists, valid or not.
func allOuts(yield func(party.Out) bool) {
	for _, next := range numbers() {
		for _, room := range rooms() {
			for _, wait := range waits(next, room) {
				if !yield(outOf(next, room, wait...)) {
					return
				}
			}
		}
	}
}

// smallOuts are all lists of up to four of small numbers, in whatever order, with each small next and room.
func smallOuts(yield func(party.Out) bool) {
	for l := range listsOf(4, -2, -1, 0, 1, 2, 3, 4) {
		wait := numbered(l...)
		for next := -1; next <= 5; next++ {
			for room := range 6 {
				if !yield(outOf(next, room, wait...)) {
					return
				}
			}
		}
	}
}

// listsOf are all lists of up to most of these numbers.
func listsOf(most int, numbers ...int) func(func([]int) bool) {
	return func(yield func([]int) bool) {
		var from func([]int) bool
		from = func(l []int) bool {
			if !yield(l) {
				return false
			}
			if len(l) == most {
				return true
			}
			for _, n := range numbers {
				if !from(append(slices.Clone(l), n)) {
					return false
				}
			}
			return true
		}
		from(nil)
	}
}

// validOuts are some from which all goes on, each with an own combination of edges.
func validOuts() []party.Out {
	var l []party.Out
	for _, room := range []int{1, 2, 3, 50, 99, 100} {
		for _, next := range []int{0, 1, 2, 3, 5, 99, 100, 101, 1000, lastNumber - 1, lastNumber} {
			for _, n := range distinct(0, 1, 2, room/2, room-1, room) {
				if n <= min(next, room) {
					l = append(l, waiting(next, n, room))
				}
			}
		}
	}
	long := waiting(7, 3, 4)
	for i := range long.Wait {
		long.Wait[i].Text = bytesOf(498 + i)
	}
	return append(l, long, outOf(2, 2, party.Packet{Seq: 0}, party.Packet{Seq: 1}))
}

// wrongOuts are some that are not valid, most of them for one reason alone.
func wrongOuts() []party.Out {
	long := waiting(7, 3, 4)
	long.Wait[1].Text = bytesOf(501)
	return []party.Out{
		{},
		waiting(3, 0, 0), waiting(3, 0, -1), waiting(3, 0, 101), waiting(3, 0, math.MinInt), waiting(3, 0, math.MaxInt),
		waiting(3, 1, 0), waiting(3, 2, -1), waiting(3, 2, 101), waiting(3, 2, math.MinInt), waiting(3, 2, math.MaxInt),
		waiting(-1, 0, 3), waiting(lastNumber+1, 0, 3), waiting(math.MinInt, 0, 3), waiting(math.MaxInt, 0, 3),
		waiting(-1, 2, 3), waiting(lastNumber+1, 2, 3), waiting(math.MinInt, 2, 3), waiting(math.MaxInt, 2, 3),
		waiting(9, 2, 1), waiting(9, 4, 3), waiting(500, 101, 100), waiting(500, 300, 100), waiting(5000, 5000, 100),
		waiting(0, 1, 3), waiting(1, 2, 3), waiting(99, 100, 100),
		outOf(3, 3, numbered(0, 1)...), outOf(3, 3, numbered(1, 2, 3)...), outOf(3, 3, numbered(3)...), outOf(3, 3, numbered(0)...),
		outOf(3, 3, numbered(0, 2)...), outOf(3, 3, numbered(2, 2)...), outOf(3, 3, numbered(2, 1)...), outOf(4, 3, numbered(1, 3, 2)...), outOf(4, 3, numbered(2, 1, 3)...),
		outOf(3, 3, numbered(math.MaxInt, math.MinInt)...), outOf(0, 3, numbered(math.MaxInt)...), outOf(0, 3, numbered(-1)...), outOf(0, 3, numbered(math.MinInt)...),
		long, outOf(1, 1, party.Packet{Seq: 0, Text: bytesOf(501)}), outOf(2, 2, party.Packet{Seq: 0}, party.Packet{Seq: 1, Text: bytesOf(65536)}),
	}
}

// The chapter's words, one sentence after the other.

func inRange(n, least, most int) bool { return n >= least && n <= most }

func valid(o party.Out) bool {
	if !inRange(o.Room, 1, mostRoom) {
		return false
	}
	if !inRange(o.Next, 0, lastNumber) {
		return false
	}
	if len(o.Wait) > o.Room {
		return false
	}
	for _, p := range o.Wait {
		if p.Seq < 0 {
			return false
		}
		if len(p.Text) > longest {
			return false
		}
	}
	if len(o.Wait) == 0 {
		return true
	}
	for i := 1; i < len(o.Wait); i++ {
		if o.Wait[i].Seq-o.Wait[i-1].Seq != 1 { // none is below 0, so that no difference wraps around
			return false
		}
	}
	return o.Wait[len(o.Wait)-1].Seq == o.Next-1
}

func plainSay(o party.Out, text string) (party.Out, party.Packet, api.Errno) {
	if !valid(o) {
		return o, party.Packet{}, api.ErrArg
	}
	if len(text) > longest {
		return o, party.Packet{}, api.ErrBig
	}
	if o.Next == lastNumber {
		return o, party.Packet{}, api.ErrBig
	}
	if len(o.Wait) == o.Room {
		return o, party.Packet{}, api.ErrFull
	}
	p := party.Packet{Seq: o.Next, Text: text}
	return outOf(o.Next+1, o.Room, slices.Concat(o.Wait, packets{p})...), p, api.OK
}

func plainHear(i party.In, p party.Packet) (party.In, string, api.Errno) {
	if !inRange(i.Heard, 0, lastNumber) {
		return i, "", api.ErrArg
	}
	if !inRange(p.Seq, 0, lastNumber) {
		return i, "", api.ErrArg
	}
	if len(p.Text) > longest {
		return i, "", api.ErrArg
	}
	if p.Seq < i.Heard {
		return i, "", api.ErrOld
	}
	if p.Seq > i.Heard {
		return i, "", api.ErrNone
	}
	return party.In{Heard: i.Heard + 1}, p.Text, api.OK
}

func plainAcked(o party.Out, heard int) (party.Out, api.Errno) {
	if !valid(o) {
		return party.Out{}, api.ErrArg
	}
	if heard < 0 {
		return party.Out{}, api.ErrArg
	}
	if heard > o.Next {
		return party.Out{}, api.ErrArg
	}
	wait := slices.DeleteFunc(slices.Clone(o.Wait), func(p party.Packet) bool { return p.Seq < heard })
	return outOf(o.Next, o.Room, wait...), api.OK
}
