package note_test

import (
	"bytes"
	"math"
	"slices"
	"testing"

	"waystation/api"
	"waystation/code"
	"waystation/hand"
	"waystation/lease"
	"waystation/note"
	"waystation/sum"
)

// The chapter's type and calls: a field in another place, or of another type, does not compile.

var (
	_ = struct {
		Kind      int
		Mobile    uint8
		Tx, Epoch int
		Value     int
		Msg       hand.Msg
	}(note.Note{})

	_ func(note.Note) bool                = note.Right
	_ func(note.Note) ([]byte, api.Errno) = note.Encode
	_ func([]byte) (note.Note, api.Errno) = note.Decode
)

// The calls, each made twice, and held against the chapter's words and against P17.2.

func right(t *testing.T, n note.Note) bool {
	t.Helper()
	want := valid(n)
	for range 2 {
		if is := note.Right(n); is != want {
			t.Fatalf("Right(%s) = %t", show(n), is)
		}
	}
	return want
}

// encode checks R6 too: the bytes are written over, which must not show in those of the second call.
func encode(t *testing.T, n note.Note) ([]byte, api.Errno) {
	t.Helper()
	var want []byte
	wantErr := api.ErrArg
	if valid(n) {
		want, wantErr = plainBytes(n), api.OK
	}
	for range 2 {
		b, e := note.Encode(n)
		if !bytes.Equal(b, want) || e != wantErr {
			t.Fatalf("Encode(%s) = %s, %d, want %s, %d", show(n), showBytes(b), e, showBytes(want), wantErr)
		}
		overwrite(b[:cap(b)])
	}
	if back, e := note.Decode(want); wantErr == api.OK && (back != n || e != api.OK) {
		t.Fatalf("Decode(Encode(%s)) = %s, %d", show(n), show(back), e)
	}
	return want, wantErr
}

// decode lends bytes with more behind them in memory, none of which may count, and none of which may be written to; writing to them later must not show in the note.
func decode(t *testing.T, b []byte) (note.Note, api.Errno) {
	t.Helper()
	want, wantErr := plainDecode(b)
	memory := append(slices.Clone(b), 1, 2, 3, 4, 5, 6, 7, 8)
	was := slices.Clone(memory)
	for _, given := range [][]byte{memory[:len(b)], memory[:len(b):len(b)]} {
		n, e := note.Decode(given)
		if !bytes.Equal(memory, was) {
			t.Fatalf("Decode(%s) changed what it was given", showBytes(b))
		}
		overwrite(memory)
		if n != want || e != wantErr {
			t.Fatalf("Decode(%s) = %s, %d, want %s, %d", showBytes(b), show(n), e, show(want), wantErr)
		}
		copy(memory, was)
	}
	if again, e := note.Encode(want); wantErr == api.OK && (!bytes.Equal(again, b) || e != api.OK) {
		t.Fatalf("Encode(Decode(%s)) = %s, %d", showBytes(b), showBytes(again), e)
	}
	return want, wantErr
}

func overwrite(b []byte) {
	for i := range b {
		b[i] = 0xee
	}
}

// isRight checks a note that is valid, and all that follows from it.
func isRight(t *testing.T, n note.Note) {
	t.Helper()
	if !right(t, n) {
		t.Fatalf("Right(%s) = false", show(n))
	}
	b, e := encode(t, n)
	if e != api.OK {
		t.Fatalf("Encode(%s) = %d", show(n), e)
	}
	if back, e := decode(t, b); back != n || e != api.OK {
		t.Fatalf("Decode(Encode(%s)) = %s, %d", show(n), show(back), e)
	}
}

// isWrong checks a note that is not valid; there are no bytes of it, and those that it would have are of no note.
func isWrong(t *testing.T, n note.Note) {
	t.Helper()
	if right(t, n) {
		t.Fatalf("Right(%s) = true", show(n))
	}
	if b, e := encode(t, n); len(b) != 0 || e != api.ErrArg {
		t.Fatalf("Encode(%s) = %s, %d", show(n), showBytes(b), e)
	}
	if fits(n) {
		decodeFails(t, plainBytes(n))
	}
}

func decodeFails(t *testing.T, b []byte) {
	t.Helper()
	if n, e := decode(t, b); n != (note.Note{}) || e != api.ErrForm {
		t.Fatalf("Decode(%s) = %s, %d", showBytes(b), show(n), e)
	}
}

func is(t *testing.T, n note.Note, want bool) {
	t.Helper()
	if want {
		isRight(t, n)
		return
	}
	isWrong(t, n)
}

// backIs checks that a note and these bytes are made of each other.
func backIs(t *testing.T, n note.Note, b string) {
	t.Helper()
	if got, e := note.Encode(n); string(got) != b || e != api.OK {
		t.Errorf("Encode(%s) = %x, %d, want %x", show(n), got, e, b)
	}
	if got, e := note.Decode([]byte(b)); got != n || e != api.OK {
		t.Errorf("Decode(%x) = %s, %d, want %s", b, show(got), e, show(n))
	}
	isRight(t, n)
}

func TestExample(t *testing.T) {
	backIs(t, note.Note{Kind: note.Vote, Mobile: 3, Tx: 7, Epoch: 2, Value: 1},
		"\x01\x00\x12"+
			"\x02\x03\x00\x07\x00\x00\x00\x02\x01\x00\x00\x00\x00\x00\x00\x00\x00\x00"+
			"\x02\x60\x00\x23")
}

func TestKinds(t *testing.T) {
	got := []int{note.Hand, note.Vote, note.More, note.Ask, note.Tell}
	if !slices.Equal(got, []int{1, 2, 3, 4, 5}) {
		t.Errorf("the kinds: %v", got)
	}
	// An untyped constant is of any integer type, as the chapter has it.
	small := []uint8{note.Hand, note.Vote, note.More, note.Ask, note.Tell}
	if !slices.Equal(small, []uint8{1, 2, 3, 4, 5}) {
		t.Errorf("the kinds as bytes: %v", small)
	}
}

// TestOneOfEachKind: byte by byte, with a byte of its own in each place.
func TestOneOfEachKind(t *testing.T) {
	backIs(t, of(2, 7, 0x0302, 0x0a0b0c, 2), "\x01\x00\x12\x02\x07\x03\x02\x00\x0a\x0b\x0c\x02\x00\x00\x00\x00\x00\x00\x00\x00\x00\x04\x07\x00\x45")
	backIs(t, of(3, 1, lastTx, lastEpoch, 0), "\x01\x00\x12\x03\x01\x03\xe7\x00\x10\x00\x00\x00\x00\x00\x00\x00\x00\x00\x00\x00\x00\x10\x50\x01\x12")
	backIs(t, of(4, 6, 300, 0, 0), "\x01\x00\x12\x04\x06\x01\x2c\x00\x00\x00\x00\x00\x00\x00\x00\x00\x00\x00\x00\x00\x00\x04\xd2\x00\x4b")
	backIs(t, of(5, 0, 1, 0, 2), "\x01\x00\x12\x05\x00\x00\x01\x00\x00\x00\x00\x02\x00\x00\x00\x00\x00\x00\x00\x00\x00\x01\xfd\x00\x1c")
	backIs(t, handOf(5, msgOf(3, 6, 4, 0x0a0b0c, "a\xff\u00e9")), "\x01\x00\x16\x01\x05\x00\x00\x00\x00\x00\x00\x00\x03\x06\x04\x00\x0a\x0b\x0c\x00\x04a\xff\xc3\xa9\x0b\x10\x03\x1c")
}

// TestListsOfTheTests: they hold valid notes of each kind, and others.
func TestListsOfTheTests(t *testing.T) {
	var n [6]int
	for _, x := range validNotes() {
		if !valid(x) {
			t.Fatalf("%s is not valid", show(x))
		}
		n[x.Kind]++
	}
	if n != [6]int{0, 3 * 4 * 3 * 3 * 3 * 9, 3 * 7 * 9 * 2, 3 * 7 * 9, 3 * 7, 3 * 7 * 3} {
		t.Errorf("valid notes by their kinds: %v", n)
	}
	for _, x := range wrongNotes() {
		if valid(x) {
			t.Errorf("%s is valid", show(x))
		}
	}
}

// P17.1 and P17.2

func TestValidNotes(t *testing.T) {
	for _, n := range validNotes() {
		isRight(t, n)
	}
}

func TestWrongNotes(t *testing.T) {
	for _, n := range wrongNotes() {
		isWrong(t, n)
	}
	isWrong(t, note.Note{})
}

// edges goes through all edges of the fields beside the message, each with each kind.
func edges(visit func(note.Note)) {
	for _, kind := range edgeKinds() {
		for _, mobile := range edgeMobiles() {
			for _, tx := range edgeTxs() {
				for _, epoch := range edgeEpochs() {
					for _, value := range edgeValues() {
						visit(of(kind, mobile, tx, epoch, value))
					}
				}
			}
		}
	}
}

func TestEdges(t *testing.T) {
	var n [6]int
	edges(func(x note.Note) {
		if right(t, x) {
			n[x.Kind]++
			isRight(t, x)
			return
		}
		isWrong(t, x)
	})
	// 2 of the mobiles are in range, 4 of the transactions, and 3 of the epochs; no kind Hand is without a message.
	if n != [6]int{0, 0, 2 * 4 * 3 * 2, 2 * 4 * 3, 2 * 4, 2 * 4 * 3} {
		t.Errorf("valid notes by their kinds: %v", n)
	}
}

// TestEdgesWithMsg: what a message allows of the other fields, and what it does not.
func TestEdgesWithMsg(t *testing.T) {
	msgs := append(smallMsgs(), msgOf(1, 0, 0, 1, ""), msgOf(3, 1, 2, 5, "c"), msgOf(4, 7, 7, lastEpoch, bytesOf(500)), msgOf(5, 1, 2, 5, ""), msgOf(2, 8, 2, 5, ""), msgOf(3, 1, 2, 5, bytesOf(501)))
	n := 0
	edges(func(x note.Note) {
		for _, m := range msgs {
			want := x.Kind == 1 && x.Mobile < 8 && x.Tx == 0 && x.Epoch == 0 && x.Value == 0 && len(m.Cargo) <= 500 && m.From < 8 && m.Kind >= 1 && m.Kind <= 4 && m.Epoch > 0
			is(t, with(x, m), want)
			if want {
				n++
			}
		}
	})
	if n != 2*3 {
		t.Errorf("%d valid notes", n)
	}
}

// TestEdgesOfMsg: a message to the station that it comes from is allowed here, and so is cargo with each kind.
func TestEdgesOfMsg(t *testing.T) {
	n := 0
	for _, m := range edgeMsgs() {
		want := m.Kind >= 1 && m.Kind <= 4 && m.From < 8 && m.To < 8 && m.Epoch >= 1 && m.Epoch <= lastEpoch && len(m.Cargo) <= 500
		is(t, handOf(3, m), want)
		if want {
			n++
		}
		none := m == hand.Msg{}
		for _, kind := range []int{-1, 0, 2, 3, 4, 5, 6} {
			is(t, with(of(kind, 3, 0, 0, 0), m), none && (kind == 4 || kind == 5))
		}
		is(t, with(of(2, 3, 7, 2, 1), m), none)
		is(t, with(of(3, 3, 7, 2, 0), m), none)
	}
	if n != 4*2*2*3*6 {
		t.Errorf("%d valid messages", n)
	}
}

// bound is what a field of a kind's notes may be, from least to most, and how such a note gets another number there.
type bound struct {
	name        string
	least, most int
	set         func(*note.Note, int)
}

func setTx(n *note.Note, x int)         { n.Tx = x }
func setEpoch(n *note.Note, x int)      { n.Epoch = x }
func setValue(n *note.Note, x int)      { n.Value = x }
func setMsgKind(n *note.Note, x int)    { n.Msg.Kind = x }
func setEpochOfMsg(n *note.Note, x int) { n.Msg.Epoch = x }

// boundsOf are those of a kind's fields of the type int.
func boundsOf(kind int) []bound {
	bounds := func(tx, epoch, least, most, kinds, epochOfMsg int) []bound {
		return []bound{
			{"Tx", 0, tx, setTx}, {"Epoch", min(epoch, 1), epoch, setEpoch}, {"Value", least, most, setValue},
			{"Msg.Kind", min(kinds, 1), kinds, setMsgKind}, {"Msg.Epoch", min(epochOfMsg, 1), epochOfMsg, setEpochOfMsg},
		}
	}
	switch kind {
	case 1:
		return bounds(0, 0, 0, 0, 4, lastEpoch)
	case 2:
		return bounds(lastTx, lastEpoch, 1, 2, 0, 0)
	case 3:
		return bounds(lastTx, lastEpoch, 0, 0, 0, 0)
	case 4:
		return bounds(lastTx, 0, 0, 0, 0, 0)
	}
	return bounds(lastTx, 0, 0, 2, 0, 0)
}

// TestEachNumberAlone: with the least and the greatest int, and with what would be in range if it were cut short.
func TestEachNumberAlone(t *testing.T) {
	for _, n := range fewNotes() {
		for _, f := range boundsOf(n.Kind) {
			for _, x := range extremes(f.least, f.most) {
				changed := n
				f.set(&changed, x)
				want := x >= f.least && x <= f.most
				if right(t, changed) != want {
					t.Fatalf("Right(%s), with the %s %d, is not %t", show(changed), f.name, x, want)
				}
				is(t, changed, want)
			}
		}
	}
}

// TestEachPairOfNumbers: two fields at a time, which a kind may mix up, or hold against each other.
func TestEachPairOfNumbers(t *testing.T) {
	numbers := []int{math.MinInt, -256, -1, 0, 1, 2, 3, 4, 5, 255, 256, 257, 258, 999, 1000, 65535, 65536, 65537, lastEpoch, lastEpoch + 1, math.MaxInt32, math.MaxInt}
	for _, n := range fewNotes() {
		fields := boundsOf(n.Kind)
		for i, f := range fields {
			for _, g := range fields[:i] {
				for _, x := range numbers {
					for _, y := range numbers {
						changed := n
						f.set(&changed, x)
						g.set(&changed, y)
						is(t, changed, x >= f.least && x <= f.most && y >= g.least && y <= g.most)
					}
				}
			}
		}
	}
}

// TestEachKind: the kinds of extremes, with the fields of each kind.
func TestEachKind(t *testing.T) {
	for _, n := range fewNotes() {
		for _, kind := range extremes(1, 5) {
			changed := n
			changed.Kind = kind
			is(t, changed, valid(changed))
			if kind < 1 || kind > 5 {
				isWrong(t, changed)
			}
		}
	}
}

func TestEachStationAndMobile(t *testing.T) {
	for _, n := range fewNotes() {
		for x := range 256 {
			changed := n
			changed.Mobile = uint8(x)
			is(t, changed, x < 8)
			changed = n
			changed.Msg.From = uint8(x)
			is(t, changed, x == 0 || x < 8 && n.Kind == 1)
			changed = n
			changed.Msg.To = uint8(x)
			is(t, changed, x == 0 || x < 8 && n.Kind == 1)
		}
	}
}

// TestPairsOfStations: any two of them, also twice the same.
func TestPairsOfStations(t *testing.T) {
	for from := range 10 {
		for to := range 10 {
			for kind := 1; kind <= 4; kind++ {
				is(t, handOf(3, msgOf(kind, uint8(from), uint8(to), 5, "c")), from < 8 && to < 8)
			}
		}
	}
}

// TestCargo: what counts is the number of bytes, not that of letters, and none of them has another meaning.
func TestCargo(t *testing.T) {
	for kind := 1; kind <= 4; kind++ {
		for size := range 600 {
			is(t, handOf(3, msgOf(kind, 1, 2, 5, bytesOf(size))), size <= 500)
			is(t, handOf(3, msgOf(kind, 1, 2, 5, signsOf(size))), size <= 500)
		}
		for x := range 256 {
			isRight(t, handOf(3, msgOf(kind, 1, 2, 5, string([]byte{byte(x)}))))
			isRight(t, handOf(3, msgOf(kind, 1, 2, 5, string(bytes.Repeat([]byte{byte(x)}, 500)))))
			isWrong(t, handOf(3, msgOf(kind, 1, 2, 5, string(bytes.Repeat([]byte{byte(x)}, 501)))))
		}
		for _, size := range []int{756, 1000, 2000, 2001, 3982, 3983, 4000, 65535, 65536, 65537, 66036, 66037, 1 << 20} {
			isWrong(t, handOf(3, msgOf(kind, 1, 2, 5, bytesOf(size))))
		}
	}
}

func TestEachTx(t *testing.T) {
	for tx := -2000; tx < 3000; tx++ {
		want := tx >= 0 && tx <= 999
		is(t, of(2, 3, tx, 2, 1), want)
		is(t, of(3, 3, tx, 2, 0), want)
		is(t, of(4, 3, tx, 0, 0), want)
		is(t, of(5, 3, tx, 0, 1), want)
		is(t, with(of(1, 3, tx, 0, 0), msgOf(1, 1, 2, 5, "")), tx == 0)
	}
}

// TestEachEpoch: P17.2 in all of them.
func TestEachEpoch(t *testing.T) {
	for epoch := 1; epoch <= lastEpoch; epoch++ {
		n := of(2, uint8(epoch%8), epoch%1000, epoch, 1+epoch%2)
		switch epoch % 3 {
		case 0:
			n = of(3, uint8(epoch%8), epoch%1000, epoch, 0)
		case 1:
			n = handOf(uint8(epoch%8), msgOf(1+epoch%4, uint8(epoch/8%8), uint8(epoch/64%8), epoch, bytesOf(epoch%9)))
		}
		b, e := note.Encode(n)
		if e != api.OK || !bytes.Equal(b, plainBytes(n)) {
			t.Fatalf("Encode(%s) = %x, %d", show(n), b, e)
		}
		back, e := note.Decode(b)
		if e != api.OK || back != n {
			t.Fatalf("Decode(%x) = %s, %d", b, show(back), e)
		}
	}
}

// TestUnlike: unlike notes have unlike bytes.
func TestUnlike(t *testing.T) {
	notes := map[string]note.Note{}
	all := validNotes()
	for tx := range 1000 {
		all = append(all, of(2, 3, tx, 2, 1), of(2, 3, tx, 2, 2), of(3, 3, tx, 2, 0), of(4, 3, tx, 0, 0), of(5, 3, tx, 0, 0), of(5, 3, tx, 0, 1), of(5, 3, tx, 0, 2))
	}
	for size := range 501 {
		all = append(all, handOf(3, msgOf(3, 1, 2, 5, bytesOf(size))), handOf(3, msgOf(2, 1, 2, 5, bytesOf(size))), handOf(3, msgOf(3, 1, 2, size+1, "")))
	}
	for _, n := range all {
		b, e := note.Encode(n)
		if e != api.OK {
			t.Fatalf("Encode(%s) = %d", show(n), e)
		}
		if other, has := notes[string(b)]; has && other != n {
			t.Fatalf("%s are the bytes of %s and of %s", showBytes(b), show(n), show(other))
		}
		notes[string(b)] = n
	}
	if len(notes) < 10000 {
		t.Errorf("%d notes", len(notes))
	}
}

// TestShape: the bytes are those of layers 2 and 3.
func TestShape(t *testing.T) {
	number := func(x int) code.Value { return code.Value{N: uint64(x)} }
	for _, n := range validNotes() {
		m := n.Msg
		content, e := code.Encode("aabcaaaact", []code.Value{
			number(n.Kind), number(int(n.Mobile)), number(n.Tx), number(n.Epoch), number(n.Value),
			number(m.Kind), number(int(m.From)), number(int(m.To)), number(m.Epoch), {S: m.Cargo},
		})
		frame, e2 := sum.Frame(content)
		if b, e3 := note.Encode(n); e != api.OK || e2 != api.OK || e3 != api.OK || !bytes.Equal(b, frame) {
			t.Fatalf("Encode(%s) = %s, %d, want %s, %d, %d", show(n), showBytes(b), e3, showBytes(frame), e, e2)
		}
	}
}

// TestOfLayer12: what stations say to each other comes through as it was said.
func TestOfLayer12(t *testing.T) {
	for _, cargo := range []string{"", "c", bytesOf(500), signsOf(500)} {
		sides := []hand.Side{{Me: 0}, {Me: 1, Lease: lease.Lease{Epoch: 1, State: lease.Held}, Cargo: cargo}, {Me: 2}}
		m, e := hand.Ask(sides[1], 2)
		if e != api.OK {
			t.Fatalf("Ask: %d", e)
		}
		heard := 0
		for way := []hand.Msg{m}; len(way) > 0; heard++ {
			isRight(t, handOf(7, way[0]))
			b, _ := note.Encode(note.Note{Kind: note.Hand, Mobile: 7, Msg: way[0]})
			n, _ := note.Decode(b)
			side, replies, e := hand.Hear(sides[n.Msg.To], n.Msg)
			if e != api.OK {
				t.Fatalf("Hear of %s: %d", show(n), e)
			}
			sides[n.Msg.To] = side
			way = replies
		}
		if at := sides[2]; heard != 4 || at.Cargo != cargo || at.Lease != (lease.Lease{Epoch: 2, State: lease.Held}) {
			t.Errorf("after %d messages: %v", heard, at)
		}
	}
}
