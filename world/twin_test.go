package world_test

import (
	"bytes"
	"reflect"
	"slices"
	"testing"

	"waystation/air"
	"waystation/api"
	"waystation/hand"
	"waystation/note"
	"waystation/world"
)

// twin is a world and a plain one, to which the same things happen.
type twin struct {
	t     *testing.T
	w     *world.World
	p     *plain
	steps []step
	txs   []int // those that are looked at
}

func newTwin(t *testing.T) *twin {
	t.Helper()
	return &twin{t: t, w: world.New(), p: newPlain(), txs: []int{0, 1, 2, 3, 5, 7, 9, 998, 999}}
}

// after is a twin to which some steps happened, each of which is OK.
func after(t *testing.T, l ...step) *twin {
	t.Helper()
	x := newTwin(t)
	x.works(l...)
	return x
}

// do lets a step happen to both, and holds against each other what they answer.
func (x *twin) do(s step) (int64, errno) {
	n, e := x.w.Do(s)
	x.steps = append(x.steps, s)
	if wantN, wantE := x.p.do(s); n != wantN || e != wantE {
		x.t.Helper()
		x.fail("Do = %d, %d, want %d, %d", n, e, wantN, wantE)
	}
	return n, e
}

// is lets a step happen, and holds against what is asked for.
func (x *twin) is(s step, wantN int64, wantE errno) {
	x.t.Helper()
	if n, e := x.do(s); n != wantN || e != wantE {
		x.fail("Do = %d, %d, want %d, %d", n, e, wantN, wantE)
	}
	x.same()
}

func (x *twin) works(l ...step) {
	x.t.Helper()
	for _, s := range l {
		x.is(s, 0, api.OK)
	}
}

func (x *twin) fails(s step, want errno) {
	x.t.Helper()
	x.is(s, 0, want)
}

// fail tells the steps that led there, too: the last ones, if there are many.
func (x *twin) fail(format string, args ...any) {
	x.t.Helper()
	x.t.Fatalf("after %d steps, the last of them %+v: "+format, append([]any{len(x.steps), x.steps[max(0, len(x.steps)-30):]}, args...)...)
}

// same holds all that there is to see of both against each other.
func (x *twin) same() {
	x.t.Helper()
	x.sameCalls()
	for to := range uint8(theChair + 1) {
		x.sameLetters(to)
	}
}

// sameCalls does so for what the calls beside Do tell.
func (x *twin) sameCalls() {
	if n := x.w.Now(); n != x.p.now {
		x.fail("Now() = %d, want %d", n, x.p.now)
	}
	for i := range 256 {
		want := 0
		if i <= theChair {
			want = len(x.p.to[i])
		}
		if n := x.w.Under(uint8(i)); n != want {
			x.fail("Under(%d) = %d, want %d", i, n, want)
		}
	}
	for _, m := range []uint8{0, 1, 2, 3, 7, 8, 16, 255} {
		x.samePosition(m)
		for _, s := range []uint8{0, 1, 2, 3, 7, 8, 16, 255} {
			var want hand.Side
			if s < 3 && m < 3 {
				want = x.p.sides[s][m]
			}
			if side := x.w.Side(s, m); side != want {
				x.fail("Side(%d, %d) = %+v, want %+v", s, m, side, want)
			}
		}
	}
	x.sameChair()
	for m := range uint8(3) {
		x.sameSite(m)
	}
}

func (x *twin) samePosition(m uint8) {
	wantAt, wantIs := uint8(0), m < 3 && x.p.at[min(m, 2)] != away
	if wantIs {
		wantAt = uint8(x.p.at[m])
	}
	if at, is := x.w.At(m); at != wantAt || is != wantIs {
		x.fail("At(%d) = %d, %t, want %d, %t", m, at, is, wantAt, wantIs)
	}
}

func (x *twin) sameChair() {
	c := x.w.Chair()
	if l, want := c.Log(), x.p.chair.Log(); !slices.Equal(l, want) {
		x.fail("Chair().Log() = %+v, want %+v", l, want)
	}
	if l, want := c.Open(), x.p.chair.Open(); !slices.Equal(l, want) {
		x.fail("Chair().Open() = %v, want %v", l, want)
	}
	for _, tx := range x.txs {
		d, is := c.Deal(tx)
		if want, wantIs := x.p.chair.Deal(tx); d != want || is != wantIs {
			x.fail("Chair().Deal(%d) = %+v, %t, want %+v, %t", tx, d, is, want, wantIs)
		}
	}
}

func (x *twin) sameSite(m uint8) {
	own := x.w.Site(m)
	if l, want := own.Log(), x.p.sites[m].Log(); !slices.Equal(l, want) {
		x.fail("Site(%d).Log() = %+v, want %+v", m, l, want)
	}
	for key := range uint8(64) {
		if n, want := own.Get(key), x.p.sites[m].Get(key); n != want {
			x.fail("Site(%d).Get(%d) = %d, want %d", m, key, n, want)
		}
	}
	for _, tx := range x.txs {
		p, is := own.Part(tx)
		if want, wantIs := x.p.sites[m].Part(tx); !reflect.DeepEqual(p, want) || is != wantIs {
			x.fail("Site(%d).Part(%d) = %+v, %t, want %+v, %t", m, tx, p, is, want, wantIs)
		}
	}
}

func (x *twin) sameLetters(to uint8) {
	l, want := lettersOf(x.t, x.w, to), x.p.to[to]
	if !slices.EqualFunc(l, want, sameLetter) {
		x.fail("the letters to %d: %+v, want %+v", to, l, want)
	}
}

func sameLetter(a, b letter) bool {
	return a.From == b.From && a.To == b.To && bytes.Equal(a.B, b.B)
}

// lettersOf takes the letters to an endpoint off the network, and puts them there again.
func lettersOf(t *testing.T, w *world.World, to uint8) []letter {
	var l []letter
	for range w.Under(to) {
		x, e := w.Take(to, 0)
		if e != api.OK {
			t.Fatalf("Take(%d, 0) = %d", to, e)
		}
		l = append(l, x)
	}
	for _, x := range l {
		if e := w.Send(x); e != api.OK {
			t.Fatalf("Send(%+v) = %d", x, e)
		}
	}
	return l
}

// forge puts a letter on the network that no step sends.
func (x *twin) forge(from, to uint8, b []byte) {
	x.t.Helper()
	l := air.Letter{From: from, To: to, B: b}
	if e := x.w.Send(l); e != api.OK {
		x.fail("Send(%+v) = %d", l, e)
	}
	x.p.put(l)
}

func (x *twin) forgeNote(from, to uint8, n note.Note) {
	x.t.Helper()
	x.forge(from, to, bytesOf(x.t, n))
}

func bytesOf(t *testing.T, n note.Note) []byte {
	t.Helper()
	b, e := note.Encode(n)
	if e != api.OK {
		t.Fatalf("Encode(%+v) = %d", n, e)
	}
	return b
}

// underWay is what there is on the way to an endpoint, as notes.
func (x *twin) underWay(to uint8) []note.Note {
	x.t.Helper()
	var notes []note.Note
	for _, l := range lettersOf(x.t, x.w, to) {
		n, e := note.Decode(l.B)
		if e != api.OK || l.To != to {
			x.fail("%+v: %d", l, e)
		}
		notes = append(notes, n)
	}
	return notes
}

// sent holds the letters to an endpoint against notes, which all are from one endpoint.
func (x *twin) sent(from, to uint8, want ...note.Note) {
	x.t.Helper()
	if l := x.underWay(to); !slices.Equal(l, want) {
		x.fail("on the way to %d: %+v, want %+v", to, l, want)
	}
	for _, l := range lettersOf(x.t, x.w, to) {
		if l.From != from {
			x.fail("the letter %+v is not from %d", l, from)
		}
	}
	if n := x.w.Under(to); n != len(want) {
		x.fail("Under(%d) = %d", to, n)
	}
}

// nothing holds that there is nothing on the way to any endpoint.
func (x *twin) nothing() {
	x.t.Helper()
	for to := range 256 {
		if n := x.w.Under(uint8(to)); n != 0 {
			x.fail("Under(%d) = %d", to, n)
		}
	}
}
