package party_test

import (
	"math"
	"slices"
	"testing"

	"waystation/api"
	"waystation/party"
)

// The chapter's types and calls: a field in another place, or of another type, does not compile.

var (
	_ = struct {
		Seq  int
		Text string
	}(party.Packet{})
	_ = struct {
		Next int
		Wait []party.Packet
		Room int
	}(party.Out{})
	_ = struct{ Heard int }(party.In{})

	_ func(party.Out) bool                                         = party.Right
	_ func(party.Out, string) (party.Out, party.Packet, api.Errno) = party.Say
	_ func(party.In, party.Packet) (party.In, string, api.Errno)   = party.Hear
	_ func(party.Out, int) (party.Out, api.Errno)                  = party.Acked
)

// lent is a sender as an argument, in memory that has room behind its packets, and what that memory was.
type lent struct {
	party.Out
	memory, was packets
}

func lend(o party.Out) lent {
	spare := party.Packet{Seq: -77, Text: "spare"}
	memory := slices.Concat(o.Wait, packets{spare, spare})
	return lent{party.Out{Next: o.Next, Wait: memory[:len(o.Wait)], Room: o.Room}, memory, slices.Clone(memory)}
}

func overwrite(l packets) {
	for i := range l {
		l[i] = party.Packet{Seq: -99, Text: "overwritten"}
	}
}

// unchanged checks that a call left its argument as it was, with the memory behind it.
func (l lent) unchanged(t *testing.T, call string) {
	t.Helper()
	if !slices.Equal(l.memory, l.was) {
		t.Errorf("%s changed the packets that it was given", call)
	}
}

// apart checks that the sender that a call returned shares no memory with its argument.
func (l lent) apart(t *testing.T, call string, result party.Out) {
	t.Helper()
	l.unchanged(t, call)
	all := result.Wait[:cap(result.Wait)]
	kept := slices.Clone(all)
	overwrite(all)
	if !slices.Equal(l.memory, l.was) {
		t.Errorf("%s: writing to its result changes its argument", call)
	}
	copy(all, kept)
	overwrite(l.memory)
	if !slices.Equal(all, kept) {
		t.Errorf("%s: writing to its argument changes its result", call)
	}
}

// The calls, each held against the chapter's words and against R6.

func right(t *testing.T, o party.Out) bool {
	t.Helper()
	l := lend(o)
	is := party.Right(l.Out)
	l.unchanged(t, "Right")
	if is != valid(o) {
		t.Fatalf("Right(%s) = %t", showOut(o), is)
	}
	return is
}

func say(t *testing.T, o party.Out, text string) (party.Out, party.Packet, api.Errno) {
	t.Helper()
	l := lend(o)
	got, p, e := party.Say(l.Out, text)
	l.apart(t, "Say", got)
	want, wantPacket, wantErr := plainSay(o, text)
	if !same(got, want) || p != wantPacket || e != wantErr {
		t.Fatalf("Say(%s, %s) = %s, %s, %d, want %s, %s, %d", showOut(o), showText(text), showOut(got), showPacket(p), e, showOut(want), showPacket(wantPacket), wantErr)
	}
	if e == api.OK && !party.Right(got) {
		t.Fatalf("Say(%s, %s) = %s, which is not valid", showOut(o), showText(text), showOut(got))
	}
	return got, p, e
}

func hear(t *testing.T, i party.In, p party.Packet) (party.In, string, api.Errno) {
	t.Helper()
	got, text, e := party.Hear(i, p)
	want, wantText, wantErr := plainHear(i, p)
	if got != want || text != wantText || e != wantErr {
		t.Fatalf("Hear(%d, %s) = %d, %s, %d, want %d, %s, %d", i.Heard, showPacket(p), got.Heard, showText(text), e, want.Heard, showText(wantText), wantErr)
	}
	return got, text, e
}

func acked(t *testing.T, o party.Out, heard int) (party.Out, api.Errno) {
	t.Helper()
	l := lend(o)
	got, e := party.Acked(l.Out, heard)
	l.apart(t, "Acked", got)
	want, wantErr := plainAcked(o, heard)
	if !same(got, want) || e != wantErr {
		t.Fatalf("Acked(%s, %d) = %s, %d, want %s, %d", showOut(o), heard, showOut(got), e, showOut(want), wantErr)
	}
	if e == api.OK && !party.Right(got) {
		t.Fatalf("Acked(%s, %d) = %s, which is not valid", showOut(o), heard, showOut(got))
	}
	return got, e
}

func sayIs(t *testing.T, o party.Out, text string, want party.Out) {
	t.Helper()
	got, p, e := say(t, o, text)
	if !same(got, want) || p != (party.Packet{Seq: o.Next, Text: text}) || e != api.OK {
		t.Errorf("Say(%s, %s) = %s, %s, %d, want %s", showOut(o), showText(text), showOut(got), showPacket(p), e, showOut(want))
	}
}

func sayFails(t *testing.T, o party.Out, text string, want api.Errno) {
	t.Helper()
	got, p, e := say(t, o, text)
	if !same(got, o) || p != (party.Packet{}) || e != want {
		t.Errorf("Say(%s, %s) = %s, %s, %d, want %d", showOut(o), showText(text), showOut(got), showPacket(p), e, want)
	}
}

func hearIs(t *testing.T, heard, seq int, text string) {
	t.Helper()
	i, got, e := hear(t, party.In{Heard: heard}, party.Packet{Seq: seq, Text: text})
	if i.Heard != heard+1 || got != text || e != api.OK {
		t.Errorf("Hear(%d, %d %s) = %d, %s, %d", heard, seq, showText(text), i.Heard, showText(got), e)
	}
}

func hearFails(t *testing.T, heard, seq int, text string, want api.Errno) {
	t.Helper()
	i, got, e := hear(t, party.In{Heard: heard}, party.Packet{Seq: seq, Text: text})
	if i.Heard != heard || got != "" || e != want {
		t.Errorf("Hear(%d, %d %s) = %d, %s, %d, want %d", heard, seq, showText(text), i.Heard, showText(got), e, want)
	}
}

func ackedIs(t *testing.T, o party.Out, heard int, left ...party.Packet) {
	t.Helper()
	got, e := acked(t, o, heard)
	if !same(got, outOf(o.Next, o.Room, left...)) || e != api.OK {
		t.Errorf("Acked(%s, %d) = %s, %d", showOut(o), heard, showOut(got), e)
	}
}

func ackedFails(t *testing.T, o party.Out, heard int) {
	t.Helper()
	got, e := acked(t, o, heard)
	if !same(got, party.Out{}) || e != api.ErrArg {
		t.Errorf("Acked(%s, %d) = %s, %d", showOut(o), heard, showOut(got), e)
	}
}

// The chapter's example

func TestExample(t *testing.T) {
	first, a, e := say(t, outOf(0, 5), "a")
	if a != (party.Packet{Seq: 0, Text: "a"}) || e != api.OK {
		t.Errorf("Say a: %s, %d", showPacket(a), e)
	}
	o, b, e := say(t, first, "b")
	if b != (party.Packet{Seq: 1, Text: "b"}) || e != api.OK || !same(o, outOf(2, 5, a, b)) {
		t.Errorf("Say b: %s, %s, %d", showOut(o), showPacket(b), e)
	}
	hearFails(t, 0, 1, "b", api.ErrNone)
	hearIs(t, 0, 0, "a")
	hearFails(t, 1, 0, "a", api.ErrOld)
	hearIs(t, 1, 1, "b")
}

// P16.1, Right

func TestRightOfEdges(t *testing.T) {
	for _, c := range []struct {
		o    party.Out
		want bool
	}{
		{outOf(0, -1), false}, {outOf(0, 0), false}, {outOf(0, 1), true}, {outOf(0, 2), true}, {outOf(0, 99), true}, {outOf(0, 100), true}, {outOf(0, 101), false},
		{outOf(-1, 1), false}, {outOf(0, 1), true}, {outOf(1, 1), true}, {outOf(lastNumber-1, 1), true}, {outOf(lastNumber, 1), true}, {outOf(lastNumber+1, 1), false},
		{waiting(9, 0, 3), true}, {waiting(9, 1, 3), true}, {waiting(9, 2, 3), true}, {waiting(9, 3, 3), true}, {waiting(9, 4, 3), false}, {waiting(9, 9, 3), false},
		{waiting(1, 1, 1), true}, {waiting(2, 2, 1), false}, {waiting(300, 99, 100), true}, {waiting(300, 100, 100), true}, {waiting(300, 101, 100), false},
		{waiting(3, 3, 3), true}, {waiting(2, 3, 3), false}, {waiting(0, 1, 3), false}, {waiting(0, 3, 3), false}, {waiting(-1, 3, 3), false},
		{waiting(lastNumber-1, 3, 3), true}, {waiting(lastNumber, 3, 3), true}, {waiting(lastNumber+1, 3, 3), false},
		{outOf(5, 9, numbered(2, 3, 4)...), true}, {outOf(5, 9, numbered(2, 4)...), false}, {outOf(5, 9, numbered(1, 3, 4)...), false},
		{outOf(5, 9, numbered(3, 3, 4)...), false}, {outOf(5, 9, numbered(3, 4, 4)...), false}, {outOf(5, 9, numbered(4, 4)...), false},
		{outOf(5, 9, numbered(4, 3)...), false}, {outOf(5, 9, numbered(3, 2, 4)...), false}, {outOf(5, 9, numbered(2, 4, 3)...), false},
		{outOf(5, 9, numbered(1, 2, 3)...), false}, {outOf(5, 9, numbered(3, 4, 5)...), false}, {outOf(5, 9, numbered(5)...), false}, {outOf(5, 9, numbered(3)...), false},
		{outOf(2, 9, numbered(-1, 0, 1)...), false}, {outOf(1, 9, numbered(-1)...), false}, {outOf(0, 9, numbered(-1)...), false},
	} {
		if is := right(t, c.o); is != c.want {
			t.Errorf("Right(%s) = %t", showOut(c.o), is)
		}
	}
}

func TestRightOfTexts(t *testing.T) {
	for _, n := range []int{1, 2, 3, 100} {
		for at := range n {
			for size, want := range map[int]bool{0: true, 1: true, 499: true, 500: true, 501: false, 502: false, 756: false, 65536: false, 65537: false} {
				o := waiting(200, n, 100)
				o.Wait[at].Text = bytesOf(size)
				if is := right(t, o); is != want {
					t.Errorf("Right with %d bytes at %d of %d = %t", size, at, n, is)
				}
			}
		}
	}
}

// TestBytesNotLetters: the limit of a text is that of its bytes, in each call.
func TestBytesNotLetters(t *testing.T) {
	for _, size := range []int{499, 500} {
		text := signsOf(size)
		said := outOf(5, 3, packet(3), party.Packet{Seq: 4, Text: text})
		sayIs(t, outOf(4, 3, packet(3)), text, said)
		sayIs(t, said, "x", outOf(6, 3, packet(3), party.Packet{Seq: 4, Text: text}, party.Packet{Seq: 5, Text: "x"}))
		hearIs(t, 4, 4, text)
		ackedIs(t, said, 4, party.Packet{Seq: 4, Text: text})
	}
	for _, size := range []int{501, 502, 999, 1000} {
		text := signsOf(size)
		said := outOf(5, 3, packet(3), party.Packet{Seq: 4, Text: text})
		if right(t, said) {
			t.Errorf("Right(%s) = true", showOut(said))
		}
		sayFails(t, outOf(4, 3, packet(3)), text, api.ErrBig)
		sayFails(t, said, "x", api.ErrArg)
		hearFails(t, 4, 4, text, api.ErrArg)
		ackedFails(t, said, 4)
	}
}

// TestRightOfNumbers: a wrong number at each place.
func TestRightOfNumbers(t *testing.T) {
	for _, n := range []int{1, 2, 3, 50, 99, 100} {
		for at := range n {
			for _, seq := range append(numbers(), 200-n+at-1, 200-n+at+1) {
				o := waiting(200, n, 100)
				o.Wait[at].Seq = seq
				if is := right(t, o); is != (seq == 200-n+at) {
					t.Errorf("Right with the number %d at %d of %d = %t", seq, at, n, is)
				}
			}
		}
	}
}

func TestRightOfAll(t *testing.T) {
	seen := map[bool]int{}
	for o := range allOuts {
		seen[right(t, o)]++
	}
	for o := range smallOuts {
		seen[right(t, o)]++
	}
	if seen[true] < 1000 || seen[false] < 100000 {
		t.Errorf("%d senders are valid, and %d are not", seen[true], seen[false])
	}
	for _, o := range validOuts() {
		if !right(t, o) {
			t.Errorf("Right(%s) = false", showOut(o))
		}
	}
	for _, o := range wrongOuts() {
		if right(t, o) {
			t.Errorf("Right(%s) = true", showOut(o))
		}
	}
}

// P16.1, Say

func TestSay(t *testing.T) {
	for _, text := range []string{"", "a", "ab", bytesOf(499), bytesOf(500), "\xff\xfe", "\x00", "\u00e9\u4e16"} {
		sayIs(t, outOf(0, 1), text, outOf(1, 1, party.Packet{Seq: 0, Text: text}))
		sayIs(t, outOf(7, 1), text, outOf(8, 1, party.Packet{Seq: 7, Text: text}))
		sayIs(t, waiting(7, 2, 3), text, outOf(8, 3, packet(5), packet(6), party.Packet{Seq: 7, Text: text}))
		sayIs(t, waiting(2, 2, 3), text, outOf(3, 3, packet(0), packet(1), party.Packet{Seq: 2, Text: text}))
		sayIs(t, outOf(lastNumber-1, 3), text, outOf(lastNumber, 3, party.Packet{Seq: lastNumber - 1, Text: text}))
	}
	for _, room := range []int{1, 2, 99, 100} {
		sayIs(t, waiting(300, room-1, room), "no. 300", waiting(301, room, room))
		sayIs(t, waiting(lastNumber-1, room-1, room), "no. 1048575", waiting(lastNumber, room, room))
		sayFails(t, waiting(300, room, room), "x", api.ErrFull)
		sayFails(t, waiting(lastNumber-1, room, room), "x", api.ErrFull)
	}
}

func TestSayOfWrongSenders(t *testing.T) {
	for _, o := range wrongOuts() {
		for _, text := range texts() {
			sayFails(t, o, text, api.ErrArg)
		}
	}
}

func TestSayTooMuch(t *testing.T) {
	for _, o := range validOuts() {
		for _, size := range []int{501, 502, 756, 65536, 65537} {
			sayFails(t, o, bytesOf(size), api.ErrBig) // full or not
		}
	}
	for _, room := range []int{1, 2, 100} {
		for _, n := range distinct(0, 1, room) {
			for _, text := range texts() {
				sayFails(t, waiting(lastNumber, n, room), text, api.ErrBig)
			}
		}
	}
}

// TestSayUpToRoom: of Room texts, and a few more.
func TestSayUpToRoom(t *testing.T) {
	for _, first := range []int{0, 1, 1000, lastNumber - 100} {
		for _, room := range []int{1, 2, 3, 50, 99, 100} {
			o := outOf(first, room)
			for i := range room {
				sayIs(t, o, packet(first+i).Text, waiting(first+i+1, i+1, room))
				o = waiting(first+i+1, i+1, room)
			}
			want := api.ErrFull
			if o.Next == lastNumber {
				want = api.ErrBig
			}
			for range 3 {
				sayFails(t, o, "x", want)
			}
		}
	}
}

func TestSayOfAll(t *testing.T) {
	seen := map[api.Errno]int{}
	count := func(o party.Out, text string) {
		_, _, e := say(t, o, text)
		seen[e]++
	}
	for o := range allOuts {
		count(o, "x")
	}
	for o := range smallOuts {
		count(o, "")
	}
	for _, o := range validOuts() {
		for _, text := range texts() {
			count(o, text)
		}
	}
	for _, e := range []api.Errno{api.OK, api.ErrArg, api.ErrBig, api.ErrFull} {
		if seen[e] < 300 {
			t.Errorf("%d calls returned %d", seen[e], e)
		}
	}
}

// TestSaysOfOneSender: two texts of one and the same sender, with room behind its packets or not, do not meddle with each other.
func TestSaysOfOneSender(t *testing.T) {
	for _, o := range validOuts() {
		if o.Next > lastNumber-2 || len(o.Wait) > o.Room-2 {
			continue
		}
		spare := lend(o)
		grown, _, _ := party.Say(o, "one before")
		for _, from := range []party.Out{o, spare.Out, grown} {
			was := slices.Clone(from.Wait)
			a, p, e := party.Say(from, "a")
			b, q, f := party.Say(from, "b")
			if e != api.OK || f != api.OK || p != (party.Packet{Seq: from.Next, Text: "a"}) || q != (party.Packet{Seq: from.Next, Text: "b"}) {
				t.Fatalf("Say of %s: %s, %d, and %s, %d", showOut(from), showPacket(p), e, showPacket(q), f)
			}
			if !slices.Equal(from.Wait, was) || !slices.Equal(a.Wait, slices.Concat(was, packets{p})) || !slices.Equal(b.Wait, slices.Concat(was, packets{q})) {
				t.Fatalf("Say of %s: %s, and %s", showOut(from), showOut(a), showOut(b))
			}
		}
	}
}

// P16.2, Hear

func TestHearOfEdges(t *testing.T) {
	edges := []int{-1, 0, 1, lastNumber - 1, lastNumber, lastNumber + 1}
	for _, heard := range edges {
		for _, seq := range edges {
			switch {
			case heard == -1 || heard == lastNumber+1 || seq == -1 || seq == lastNumber+1:
				hearFails(t, heard, seq, "x", api.ErrArg)
			case seq < heard:
				hearFails(t, heard, seq, "x", api.ErrOld)
			case seq > heard:
				hearFails(t, heard, seq, "x", api.ErrNone)
			default:
				hearIs(t, heard, seq, "x")
			}
		}
	}
}

func TestHearOfTexts(t *testing.T) {
	for _, heard := range []int{0, 1, 7, lastNumber - 1, lastNumber} {
		for _, text := range []string{"", "a", "\xff\x00", bytesOf(499), bytesOf(500), "\u00e9"} {
			hearIs(t, heard, heard, text)
		}
		for _, size := range []int{501, 502, 756, 65536, 65537} {
			for _, seq := range []int{0, heard - 1, heard, heard + 1, lastNumber} {
				hearFails(t, heard, seq, bytesOf(size), api.ErrArg)
			}
		}
	}
}

func TestHearOfAll(t *testing.T) {
	seen := map[api.Errno]int{}
	l := append(numbers(), 4, 6, 7, 8, 1000, lastNumber-2)
	for _, heard := range l {
		for _, seq := range l {
			for _, text := range texts() {
				_, _, e := hear(t, party.In{Heard: heard}, party.Packet{Seq: seq, Text: text})
				seen[e]++
			}
		}
	}
	for _, e := range []api.Errno{api.OK, api.ErrArg, api.ErrOld, api.ErrNone} {
		if seen[e] < 100 {
			t.Errorf("%d calls returned %d", seen[e], e)
		}
	}
}

// P16.3

func TestAcked(t *testing.T) {
	o := outOf(9, 4, numbered(5, 6, 7, 8)...)
	for _, heard := range []int{0, 1, 4, 5} {
		ackedIs(t, o, heard, numbered(5, 6, 7, 8)...)
	}
	ackedIs(t, o, 6, numbered(6, 7, 8)...)
	ackedIs(t, o, 7, numbered(7, 8)...)
	ackedIs(t, o, 8, numbered(8)...)
	ackedIs(t, o, 9)
	for _, heard := range []int{10, 11, -1, -2, math.MinInt, math.MaxInt} {
		ackedFails(t, o, heard)
	}
}

func TestAckedOfEdges(t *testing.T) {
	for _, o := range validOuts() {
		for _, heard := range []int{0, o.Next - len(o.Wait)} {
			ackedIs(t, o, heard, o.Wait...)
		}
		ackedIs(t, o, o.Next)
		if n := len(o.Wait); n > 0 {
			ackedIs(t, o, o.Next-1, o.Wait[n-1:]...)
			ackedIs(t, o, o.Next-n+1, o.Wait[1:]...)
			ackedIs(t, o, o.Next-n/2, o.Wait[n-n/2:]...)
		}
		for _, heard := range []int{-1, math.MinInt, math.MinInt + 1, o.Next + 1, lastNumber + 1, math.MaxInt} {
			ackedFails(t, o, heard)
		}
	}
}

func TestAckedOfWrongSenders(t *testing.T) {
	for _, o := range wrongOuts() {
		for _, heard := range append(numbers(), o.Next-1, o.Next, o.Next+1) {
			ackedFails(t, o, heard)
		}
	}
}

func TestAckedOfAll(t *testing.T) {
	seen := map[api.Errno]int{}
	for o := range allOuts {
		for _, heard := range []int{0, o.Next - 1, o.Next, o.Next + 1} {
			_, e := acked(t, o, heard)
			seen[e]++
		}
	}
	for o := range smallOuts {
		if valid(o) {
			for heard := -2; heard <= 7; heard++ {
				_, e := acked(t, o, heard)
				seen[e]++
			}
		}
	}
	for _, o := range validOuts() {
		for _, heard := range append(numbers(), o.Next-2, o.Next-1, o.Next+2) {
			_, e := acked(t, o, heard)
			seen[e]++
		}
	}
	if seen[api.OK] < 1000 || seen[api.ErrArg] < 1000 {
		t.Errorf("the answers were %v", seen)
	}
}

// TestLaterAnswers: what was returned may be written over, and a call with what it was made of returns the same again.
func TestLaterAnswers(t *testing.T) {
	for _, o := range append(validOuts(), wrongOuts()...) {
		for range 2 {
			said, _, _ := say(t, o, "x")
			overwrite(said.Wait[:cap(said.Wait)])
			left, _ := acked(t, o, max(o.Next-1, 0))
			overwrite(left.Wait[:cap(left.Wait)])
			right(t, o)
		}
	}
}
