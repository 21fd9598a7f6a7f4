package air_test

import (
	"bytes"
	"slices"
	"testing"

	"waystation/api"
)

// R6: no letter shares bytes with another one, nor with what the caller has

// scrub writes over bytes, and over what there is room for behind them.
func scrub(b []byte) {
	b = b[:cap(b)]
	for i := range b {
		b[i] = '?'
	}
}

func TestSentBytesAreCopied(t *testing.T) {
	for _, size := range []int{1, 2, 3, 8, 3999, longest} {
		for _, to := range ends() {
			w := newTwin(t, 3)
			b := bytesOf(size)
			w.works(sendOf(1, to, b), againOf(to, 0), sendOf(1, to, b))
			scrub(b)
			w.holds(to, string(bytesOf(size)), string(bytesOf(size)), string(bytesOf(size)))
		}
	}
}

// TestSendLeavesItsArgument: neither the bytes nor those behind them are changed, then or by a later call.
func TestSendLeavesItsArgument(t *testing.T) {
	row := []byte("abcdefgh")
	l := letter{From: 1, To: 3, B: row[2:4]}
	w := newTwin(t, 5)
	for range 2 {
		if e := w.a.Send(l); e != api.OK {
			t.Fatal(e)
		}
	}
	for _, place := range []uint16{0, 1, 2, 3, 65535} {
		w.a.Turn(3, 0, place, 255)
		w.a.Turn(3, 1, place, 1)
	}
	w.a.Again(3, 0)
	w.a.Turn(3, 2, 0, 7)
	x, _ := w.a.Take(3, 0)
	scrub(x.B)
	if string(row) != "abcdefgh" || !sameLetter(l, letterOf(1, 3, "cd")) {
		t.Errorf("%q, %s", row, showLetter(l))
	}
}

// TestSendWithAnErrorLeavesItsArgument, for each error.
func TestSendWithAnErrorLeavesItsArgument(t *testing.T) {
	full := after(t, 1, sendOf(1, 3, []byte("a")))
	for _, l := range []letter{letterOf(1, 3, "bc"), letterOf(17, 4, "bc"), letterOf(1, 17, "bc"), {From: 1, To: 4, B: bytesOf(longest + 1)}} {
		was := letter{From: l.From, To: l.To, B: bytes.Clone(l.B)}
		if e := full.a.Send(l); e == api.OK || !sameLetter(l, was) {
			t.Errorf("%s: %d, and it is %s", showLetter(was), e, showLetter(l))
		}
		scrub(l.B)
	}
	full.gone()
}

// TestPiecesOfOneRow: letters whose bytes overlap where they were sent do not where they are.
func TestPiecesOfOneRow(t *testing.T) {
	row := []byte("abcdef")
	w := after(t, 4, sendOf(1, 3, row[:4]), sendOf(1, 3, row[1:3]), sendOf(1, 16, row[:4]), sendOf(1, 3, row[3:]))
	w.works(turnOf(3, 0, 2, 1), turnOf(3, 1, 0, 2), turnOf(3, 2, 0, 4))
	w.gone()
	if string(row) != "abcdef" {
		t.Errorf("%q", row)
	}
}

// TestTakenBytesAreTheCallers: they may be written over, whether the others came ahead of them, behind, as a copy, or from the same bytes.
func TestTakenBytesAreTheCallers(t *testing.T) {
	for at := range 6 {
		b := []byte("abc")
		w := after(t, 6, sendOf(1, 3, b), sendOf(1, 3, b), againOf(3, 0), againOf(3, 1), againOf(3, 2), sendOf(1, 3, []byte("de")))
		w.works(sendOf(1, 4, b), sendOf(1, 16, b))
		l, e := w.a.Take(3, at)
		if e != api.OK {
			t.Fatal(e)
		}
		scrub(l.B)
		w.m.to[3] = slices.Delete(w.m.to[3], at, at+1)
		if string(b) != "abc" {
			t.Errorf("at %d: %q was sent", at, b)
		}
		w.gone()
	}
}

// TestTakenBytesStay: later calls do not change them.
func TestTakenBytesStay(t *testing.T) {
	w := after(t, 4, sendOf(1, 3, []byte("abc")), againOf(3, 0), againOf(3, 0), sendOf(1, 3, []byte("abc")))
	var taken []letter
	for range 2 {
		l, _ := w.a.Take(3, 1)
		taken = append(taken, l)
	}
	for at := range 2 {
		for place := range uint16(4) {
			w.a.Turn(3, at, place, 255)
		}
		w.a.Again(3, at)
		w.a.Send(letterOf(1, 3, "xyz"))
	}
	for at := w.a.Len(3) - 1; at >= 0; at-- {
		l, _ := w.a.Take(3, at)
		scrub(l.B)
	}
	for _, l := range taken {
		if !sameLetter(l, letterOf(1, 3, "abc")) {
			t.Errorf("%s", showLetter(l))
		}
	}
}

// TestTakenAndSentAgain: the same bytes are the caller's still.
func TestTakenAndSentAgain(t *testing.T) {
	w := after(t, 2, sendOf(1, 3, []byte("abc")))
	l, _ := w.a.Take(3, 0)
	w.m.to[3] = nil
	w.works(call{kind: send, l: l}, call{kind: send, l: l})
	w.works(turnOf(3, 0, 0, 1))
	if string(l.B) != "abc" {
		t.Errorf("%q", l.B)
	}
	scrub(l.B)
	w.holds(3, "`bc", "abc")
}

// TestTurnOfCopies: of a letter, copies, and copies of copies, each Turn changes one alone.
func TestTurnOfCopies(t *testing.T) {
	for _, size := range []int{1, 2, 3, 8, longest} {
		for at := range 5 {
			for place := range min(size, 4) {
				w := after(t, 5, sendOf(1, 12, bytesOf(size)), againOf(12, 0), againOf(12, 1), againOf(12, 0), againOf(12, 3))
				w.works(turnOf(12, at, uint16(place), 77))
				w.gone()
			}
		}
	}
}

// TestCopiesAreWrittenOver: where a letter, or its copy, is taken and written over, the other stays.
func TestCopiesAreWrittenOver(t *testing.T) {
	for at := range 2 {
		w := after(t, 2, sendOf(1, 16, []byte("abc")), againOf(16, 0))
		l, _ := w.a.Take(16, at)
		scrub(l.B)
		w.m.to[16] = w.m.to[16][:1]
		w.works(turnOf(16, 0, 1, 1))
		w.holds(16, "acc")
	}
}

// TestAllIsWrittenOver: long runs in which all bytes are written over as soon as they were sent or taken.
func TestAllIsWrittenOver(t *testing.T) {
	for run := range 100 {
		from := source(run + 7)
		w := newTwin(t, 1+run%8)
		row := make([]byte, longest+10) // the bytes are sent from here, all of them
		for range 400 {
			c := from.call([]uint8{3, 16}, 4)
			want, wantE := w.m.do(c)
			if c.kind == send {
				c.l.B = append(row[:0], c.l.B...)
			}
			l, e := c.do(w.a)
			if e != wantE || !sameLetter(l, want) {
				t.Fatalf("run %d: %v = %s, %d, want %s, %d", run, c, showLetter(l), e, showLetter(want), wantE)
			}
			scrub(row)
			scrub(l.B)
		}
		w.gone()
	}
}
