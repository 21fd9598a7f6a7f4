package agent_test

import (
	"fmt"
	"math"
	"slices"
	"strings"

	"waystation/agent"
	"waystation/api"
	"waystation/hand"
	"waystation/lease"
	"waystation/note"
)

// The limits are written as numbers, so that the tests do not go by the program's own ones.
const (
	lastTx    = 999
	lastEpoch = 1048576
	most      = 50
	longest   = 500 // bytes of a cargo, by chapter 12
)

type ballots = []agent.Ballot

func ballot(tx, vote int) agent.Ballot { return agent.Ballot{Tx: tx, Vote: vote} }

// voteOf is the vote that most tests have for a transaction; which it is goes by no simple rule.
func voteOf(tx int) int { return 1 + (tx*tx/3+tx/7)%2 }

// of are ballots for these transactions, in this order.
func of(txs ...int) ballots {
	var l ballots
	for _, tx := range txs {
		l = append(l, ballot(tx, voteOf(tx)))
	}
	return l
}

// evenly are n ballots whose Tx go up by a step.
func evenly(n, first, step int) ballots {
	var l ballots
	for i := range n {
		l = append(l, ballot(first+i*step, voteOf(first+i*step)))
	}
	return l
}

func other(b agent.Ballot) agent.Ballot { return ballot(b.Tx, 3-b.Vote) }

// with is a list, or bytes, with another one at a place.
func with[T any](l []T, at int, x T) []T {
	changed := slices.Clone(l)
	changed[at] = x
	return changed
}

func held(epoch int) lease.Lease {
	return lease.Lease{Epoch: epoch, State: lease.Held}
}

func gone(epoch int, to uint8) lease.Lease {
	return lease.Lease{Epoch: epoch, State: lease.Gone, To: to}
}

func holds(me uint8, epoch int, cargo string) hand.Side {
	return hand.Side{Me: me, Lease: held(epoch), Cargo: cargo}
}

func gave(me uint8, epoch int, to uint8) hand.Side {
	return hand.Side{Me: me, Lease: gone(epoch, to)}
}

func keeps(me uint8, epoch int, to uint8, cargo string) hand.Side {
	return hand.Side{Me: me, Lease: gone(epoch, to), Cargo: cargo, Keep: true}
}

// sideOf is a side of any fields, valid or not.
func sideOf(me uint8, l lease.Lease, cargo string, keep bool) hand.Side {
	return hand.Side{Me: me, Lease: l, Cargo: cargo, Keep: keep}
}

func showText(s string) string {
	if len(s) > 30 {
		return fmt.Sprintf("%x.. (%d)", s[:30], len(s))
	}
	return fmt.Sprintf("%x", s)
}

func showSide(s hand.Side) string {
	return fmt.Sprintf("{%d %v %s %t}", s.Me, s.Lease, showText(s.Cargo), s.Keep)
}

func showList(l ballots) string {
	if len(l) > 8 {
		return fmt.Sprintf("%v.. (%d)", l[:8], len(l))
	}
	return fmt.Sprint(l)
}

func showNotes(l []note.Note) string {
	if len(l) > 4 {
		return fmt.Sprintf("%+v.. (%d)", l[:4], len(l))
	}
	return fmt.Sprintf("%+v", l)
}

// The numbers that the tests are made of: the edges, those beside them, and some that would be in range if they were cut short.

func distinct(l []int) []int {
	slices.Sort(l)
	return slices.Compact(l)
}

func cut(l []int, large ...int64) []int {
	for _, n := range large {
		l = append(l, int(n)) // where an int has 32 bits, another number, which is one to ask about too
	}
	return distinct(l)
}

func txs() []int {
	l := []int{math.MinInt, math.MinInt + 1, -65536, -65529, -1000, -999, -256, -2, -1, 0, 1, 2, 7, 9, 255, 256, 257, 511, 512, 997, 998}
	l = append(l, 999, 1000, 1001, 1023, 1024, 32768, 65535, 65536, 65537, 65543, math.MaxInt-1, math.MaxInt)
	return cut(l, 1<<31, 1<<32, 1<<32+7, 1<<62, -1<<32+7)
}

func votes() []int {
	l := []int{math.MinInt, math.MinInt + 1, -256, -255, -254, -2, -1, 0, 1, 2, 3, 4, 127, 128, 255, 256, 257, 258, 259, 65537, math.MaxInt - 1, math.MaxInt}
	return cut(l, 1<<31+1, 1<<32, 1<<32+1, 1<<32+2, -1<<32+1)
}

// allBallots are those of all these numbers, valid or not.
func allBallots() ballots {
	var l ballots
	for _, tx := range txs() {
		for _, vote := range votes() {
			l = append(l, ballot(tx, vote))
		}
	}
	return l
}

func wrongBallots() ballots {
	return slices.DeleteFunc(allBallots(), validBallot)
}

// validLists are some from which all goes on.
func validLists() []ballots {
	l := []ballots{nil, {}}
	for _, tx := range []int{0, 1, 7, 255, 256, 500, 998, 999} {
		l = append(l, ballots{ballot(tx, 1)}, ballots{ballot(tx, 2)})
	}
	l = append(l, of(0, 1), of(0, 999), of(998, 999), of(7, 9), of(255, 256), of(2, 512))
	l = append(l, of(0, 1, 2), of(0, 500, 999), of(7, 9, 300), of(997, 998, 999), of(256, 512, 768))
	for _, n := range []int{4, 33, 48, 49, 50} {
		l = append(l, evenly(n, 0, 1), evenly(n, 1, 1), evenly(n, 1000-n, 1), evenly(n, 0, 20), evenly(n, 19, 20), evenly(n, 3, 7))
	}
	for vote := range 2 {
		same := evenly(50, 10, 3)
		for i := range same {
			same[i].Vote = 1 + vote
		}
		l = append(l, same)
	}
	return l
}

// wrongCargos are texts that are no cargo of a valid list, most of them for one reason alone.
func wrongCargos() []string {
	three := plainCargo(of(7, 9, 300))
	l := []string{
		"x", "\x00", "\x00\x07", "\x00\x07\x01\x00", "\x00\x07\x01\x00\x09", three[1:], three[2:], three[:8], three[:7], three + "\x00", three + "\x00\x00", "\x00" + three, three + "\x01\x2c", three + "\x01",
		"\x00\x07\x00", "\x00\x07\x03", "\x00\x07\xff", "\x00\x07\x04", "\x03\xe8\x01", "\x03\xe9\x02", "\x04\x00\x01", "\xff\xff\x01", "\x80\x07\x01", "\x07\x00\x01",
		"\x00\x00\x00", "\x00\x00\x00\x00\x00\x00", "\x00\x07\x01\x00\x09\x00", "\x00\x07\x00\x00\x09\x01", "\x00\x07\x01\x00\x09\x03", "\x00\x07\x01\x03\xe8\x01", "\x03\xe8\x01\x03\xe9\x01", "\x03\xe8\x01\x00\x07\x01",
		"\x00\x07\x01\x00\x07\x01", "\x00\x07\x01\x00\x07\x02", "\x00\x07\x02\x00\x07\x01", "\x00\x07\x01\x00\x06\x01", "\x00\x09\x02\x00\x07\x01", "\x01\x00\x01\x00\xff\x01", "\x01\x00\x01\x00\x01\x01",
		plainCargo(of(7, 300, 9)), plainCargo(of(9, 7, 300)), plainCargo(of(7, 7, 300)), plainCargo(of(7, 300, 300)), plainCargo(of(7, 9, 7)),
		"\x00\x00\x07\x01", "\x00\x07\x00\x01", "\x00\x00\x00\x07\x01", "\x07\x01", "\x00\x07\x00\x01\x00\x09\x00\x02", "\x07\x01\x09\x02", "\x07\x00\x01", "\x01\x00\x07\x02\x00\x09", "007", "7 1", "\x00\x03\x00\x07\x01", "\x01\x00\x07\x01",
	}
	for _, n := range []int{51, 52, 60, 100, 166} {
		l = append(l, plainCargo(evenly(n, 0, 1)), plainCargo(evenly(n, 3, 5)))
	}
	full := plainCargo(evenly(50, 3, 7))
	l = append(l, full[:149], full[:148], full[1:], full+"\x00", full+"\x00\x00", full+full[147:], full[:3]+full, full[3:]+full[:3], full[:147]+"\x00\x00\x01", full[:147]+"\x03\xe8\x01", full[:149]+"\x00")
	for _, n := range []int{6, 147, 150, 153, 300, 498, 500} {
		l = append(l, strings.Repeat("\x00", n), strings.Repeat("\x00\x01\x01", n/3)+"\x00\x00"[:n%3], strings.Repeat("\xff", n))
	}
	return l
}

// cargos are some that are cargos of valid lists, and some that are not, all of them such that a side may have them.
func cargos() []string {
	var l []string
	for _, list := range validLists() {
		l = append(l, plainCargo(list))
	}
	return append(l, wrongCargos()...)
}

// wrongSides are some for which hand.Right is false, most of them for one reason alone. Their cargos are those of valid lists, but for those that are too long.
func wrongSides() []hand.Side {
	c, full, more := plainCargo(of(7, 9)), plainCargo(evenly(50, 0, 1)), strings.Repeat("\x00\x07\x01", 167)
	return []hand.Side{
		holds(8, 5, c), holds(9, 5, ""), holds(255, 5, full), gave(8, 5, 7), keeps(8, 5, 7, c), sideOf(8, lease.Lease{}, "", false),
		gave(1, 5, 1), keeps(7, 5, 7, c), gave(0, 5, 0),
		sideOf(1, lease.Lease{}, c, false), sideOf(1, lease.Lease{}, "", true), sideOf(1, lease.Lease{}, c, true), sideOf(1, held(5), "", true), sideOf(1, held(5), c, true), sideOf(1, held(lastEpoch), full, true),
		sideOf(1, gone(5, 2), c, false), sideOf(1, gone(lastEpoch, 2), full, false),
		holds(1, 5, more), holds(1, lastEpoch, more), keeps(1, 5, 2, more), holds(1, 5, strings.Repeat("\x00", 65536)), holds(1, 5, strings.Repeat("\x00\x07\x01", 65536)),
		holds(1, 0, c), holds(1, -1, c), holds(1, lastEpoch+1, c), holds(1, math.MinInt, ""), holds(1, math.MaxInt, ""),
		gave(1, 0, 2), gave(1, lastEpoch+1, 2), gave(1, 5, 8), keeps(1, 5, 255, c), keeps(1, 0, 2, c),
		sideOf(1, lease.Lease{Epoch: 5}, "", false), sideOf(1, lease.Lease{To: 2}, "", false), sideOf(1, lease.Lease{Epoch: 5, State: lease.Held, To: 2}, c, false),
		sideOf(1, lease.Lease{Epoch: 5, State: 3}, c, false), sideOf(1, lease.Lease{Epoch: 5, State: -1}, "", false), sideOf(1, lease.Lease{Epoch: 5, State: 257}, c, false), sideOf(1, lease.Lease{Epoch: 5, State: math.MaxInt}, "", false),
	}
}

// agentless are sides that are valid, and do not hold the agency. Some keep a cargo, which may be none of a valid list.
func agentless() []hand.Side {
	l := []hand.Side{{}, {Me: 1}, {Me: 7}, gave(1, 1, 2), gave(7, 5, 0), gave(0, lastEpoch, 7), keeps(1, 1, 2, ""), keeps(7, lastEpoch, 0, "")}
	for _, c := range cargos() {
		l = append(l, keeps(1, 5, 2, c))
	}
	return l
}

// manySides are those of all edges of the fields, valid or not.
func manySides(yield func(hand.Side) bool) {
	cargos := append(cargos(), strings.Repeat("\x00", 501), strings.Repeat("\x00\x07\x01", 167))
	for _, me := range []uint8{0, 1, 7, 8, 255} {
		for _, state := range []int{math.MinInt, -1, 0, 1, 2, 3, 257} {
			for _, epoch := range []int{-1, 0, 1, 5, lastEpoch, lastEpoch + 1} {
				for _, to := range []uint8{0, 1, 7, 8} {
					for i, c := range cargos {
						l := lease.Lease{Epoch: epoch, State: state, To: to}
						if !yield(sideOf(me, l, c, i%2 == 0)) || !yield(sideOf(me, l, c, i%2 == 1)) {
							return
						}
					}
				}
			}
		}
	}
}

// source makes numbers that are the same in each run.
type source uint64

func (s *source) next(below int) int {
	*s = *s*6364136223846793005 + 1442695040888963407
	return int(uint64(*s) >> 33 % uint64(below))
}

// shuffled is a list in some order.
func (s *source) shuffled(l ballots) ballots {
	mixed := slices.Clone(l)
	for i := range mixed {
		k := i + s.next(len(mixed)-i)
		mixed[i], mixed[k] = mixed[k], mixed[i]
	}
	return mixed
}

// The chapter's words, one sentence after the other.

func validBallot(b agent.Ballot) bool {
	if b.Tx < 0 || b.Tx > lastTx {
		return false
	}
	return b.Vote == 1 || b.Vote == 2
}

func valid(l ballots) bool {
	if len(l) > most {
		return false
	}
	for i := 1; i < len(l); i++ {
		if l[i-1].Tx >= l[i].Tx {
			return false
		}
	}
	for _, b := range l {
		if !validBallot(b) {
			return false
		}
	}
	return true
}

// plainCargo is two bytes and one for each ballot, the list being valid or not.
func plainCargo(l ballots) string {
	var s strings.Builder
	for _, b := range l {
		s.WriteByte(byte(b.Tx >> 8))
		s.WriteByte(byte(b.Tx))
		s.WriteByte(byte(b.Vote))
	}
	return s.String()
}

func plainPack(l ballots) (string, api.Errno) {
	if !valid(l) {
		return "", api.ErrArg
	}
	return plainCargo(l), api.OK
}

func plainUnpack(s string) (ballots, api.Errno) {
	if len(s)%3 != 0 {
		return nil, api.ErrForm
	}
	var l ballots
	for i := 0; i < len(s); i += 3 {
		l = append(l, ballot(int(s[i])*256+int(s[i+1]), int(s[i+2])))
	}
	if !valid(l) {
		return nil, api.ErrForm
	}
	return l, api.OK
}

func plainShip(s hand.Side, b agent.Ballot) (hand.Side, api.Errno) {
	if !hand.Right(s) {
		return s, api.ErrArg
	}
	if !validBallot(b) {
		return s, api.ErrArg
	}
	if s.Lease.State != 1 {
		return s, api.ErrNone
	}
	l, e := plainUnpack(s.Cargo)
	if e != api.OK {
		return s, api.ErrForm
	}
	if slices.Contains(l, other(b)) {
		return s, api.ErrHave
	}
	if slices.Contains(l, b) {
		return s, api.OK
	}
	if len(l) == most {
		return s, api.ErrFull
	}
	l = append(l, b)
	for i := len(l) - 1; i > 0 && l[i-1].Tx > l[i].Tx; i-- {
		l[i-1], l[i] = l[i], l[i-1]
	}
	return hand.Side{Me: s.Me, Lease: s.Lease, Cargo: plainCargo(l)}, api.OK
}

func plainSpeak(s hand.Side, mobile uint8) ([]note.Note, api.Errno) {
	if !hand.Right(s) {
		return nil, api.ErrArg
	}
	if mobile >= 8 {
		return nil, api.ErrArg
	}
	if s.Lease.State != 1 {
		return nil, api.ErrNone
	}
	l, e := plainUnpack(s.Cargo)
	if e != api.OK {
		return nil, api.ErrForm
	}
	return notesOf(l, mobile, s.Lease.Epoch), api.OK
}

func notesOf(l ballots, mobile uint8, epoch int) []note.Note {
	var notes []note.Note
	for _, b := range l {
		notes = append(notes, note.Note{Kind: 2, Mobile: mobile, Tx: b.Tx, Epoch: epoch, Value: b.Vote})
	}
	return notes
}
