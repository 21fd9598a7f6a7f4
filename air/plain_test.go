package air_test

import (
	"bytes"
	"fmt"
	"math"
	"slices"
	"testing"

	"waystation/air"
	"waystation/api"
)

// The limits are written as numbers, so that the tests do not go by the program's own ones.
const (
	theChair = 16
	mostRoom = 1000
	longest  = 4000
)

type letter = air.Letter

func letterOf(from, to uint8, text string) letter {
	return letter{From: from, To: to, B: []byte(text)}
}

// bytesOf are so many bytes, which differ from place to place. Many of them are no UTF-8.
func bytesOf(size int) []byte {
	b := make([]byte, size)
	for i := range b {
		b[i] = byte(255 - i*7 - i>>8)
	}
	return b
}

func sameLetter(a, b letter) bool {
	return a.From == b.From && a.To == b.To && bytes.Equal(a.B, b.B)
}

func showLetter(l letter) string {
	if len(l.B) > 12 {
		return fmt.Sprintf("%d to %d: %q.. (%d)", l.From, l.To, l.B[:12], len(l.B))
	}
	return fmt.Sprintf("%d to %d: %q", l.From, l.To, l.B)
}

// The kinds of calls that may change something.
const (
	send = iota
	take
	again
	turn
)

// call is one of them, with its arguments.
type call struct {
	kind  int
	l     letter
	to    uint8
	at    int
	place uint16
	by    byte
}

func sendOf(from, to uint8, b []byte) call {
	return call{kind: send, l: letter{From: from, To: to, B: b}}
}
func takeOf(to uint8, at int) call  { return call{kind: take, to: to, at: at} }
func againOf(to uint8, at int) call { return call{kind: again, to: to, at: at} }

func turnOf(to uint8, at int, place uint16, by byte) call {
	return call{kind: turn, to: to, at: at, place: place, by: by}
}

// endpoint is the one whose letters the call is about.
func (c call) endpoint() uint8 {
	if c.kind == send {
		return c.l.To
	}
	return c.to
}

func (c call) String() string {
	switch c.kind {
	case send:
		return fmt.Sprintf("Send(%s)", showLetter(c.l))
	case take:
		return fmt.Sprintf("Take(%d, %d)", c.to, c.at)
	case again:
		return fmt.Sprintf("Again(%d, %d)", c.to, c.at)
	}
	return fmt.Sprintf("Turn(%d, %d, %d, %d)", c.to, c.at, c.place, c.by)
}

// do does the call. Only a Take returns a letter.
func (c call) do(a *air.Air) (letter, api.Errno) {
	switch c.kind {
	case send:
		return letter{}, a.Send(c.l)
	case take:
		return a.Take(c.to, c.at)
	case again:
		return letter{}, a.Again(c.to, c.at)
	}
	return letter{}, a.Turn(c.to, c.at, c.place, c.by)
}

// plain does what the chapter says, in the plainest way, with lists of texts.
type plain struct {
	room int
	to   [theChair + 1][]text
}

type text struct {
	from uint8
	b    string
}

func (m *plain) clone() *plain {
	c := &plain{room: m.room}
	for to, l := range m.to {
		c.to[to] = slices.Clone(l)
	}
	return c
}

func (m *plain) do(c call) (letter, api.Errno) {
	if c.kind == send {
		return letter{}, m.send(c.l)
	}
	if c.to > theChair {
		return letter{}, api.ErrArg
	}
	if c.at < 0 || c.at >= len(m.to[c.to]) {
		return letter{}, api.ErrNone
	}
	switch c.kind {
	case take:
		x := m.to[c.to][c.at]
		m.to[c.to] = slices.Concat(m.to[c.to][:c.at], m.to[c.to][c.at+1:])
		return letterOf(x.from, c.to, x.b), api.OK
	case again:
		return letter{}, m.append(c.to, m.to[c.to][c.at])
	}
	return letter{}, m.turn(c)
}

func (m *plain) send(l letter) api.Errno {
	if l.From > theChair || l.To > theChair {
		return api.ErrArg
	}
	if len(l.B) > longest {
		return api.ErrBig
	}
	return m.append(l.To, text{l.From, string(l.B)})
}

func (m *plain) append(to uint8, x text) api.Errno {
	if len(m.to[to]) == m.room {
		return api.ErrFull
	}
	m.to[to] = append(m.to[to], x)
	return api.OK
}

func (m *plain) turn(c call) api.Errno {
	x := m.to[c.to][c.at]
	if x.b == "" {
		return api.ErrNone
	}
	b := []byte(x.b)
	place := int(c.place)
	for place >= len(b) {
		place -= len(b)
	}
	b[place] = turned(b[place], c.by)
	m.to[c.to][c.at] = text{x.from, string(b)}
	return api.OK
}

// turned is the exclusive or, bit by bit.
func turned(b, by byte) byte {
	var sum byte
	for bit := byte(128); bit > 0; bit /= 2 {
		if (b/bit)%2 != (by/bit)%2 {
			sum += bit
		}
	}
	return sum
}

// twin is a network, and what it should be.
type twin struct {
	t     *testing.T
	a     *air.Air
	m     *plain
	calls []call // those that changed something, for what a failure tells
}

func newTwin(t *testing.T, room int) *twin {
	t.Helper()
	a := air.New(room)
	if a == nil {
		t.Fatalf("New(%d) = nil", room)
	}
	return &twin{t: t, a: a, m: &plain{room: room}}
}

// after is a network behind calls that return OK.
func after(t *testing.T, room int, calls ...call) *twin {
	t.Helper()
	w := newTwin(t, room)
	w.works(calls...)
	return w
}

// do does the call on both, and checks that they return the same.
func (w *twin) do(c call) api.Errno {
	w.t.Helper()
	want, wantE := w.m.do(c)
	w.is(c, want, wantE)
	if wantE == api.OK {
		w.calls = append(w.calls, c)
	}
	return wantE
}

// is does the call on the network alone.
func (w *twin) is(c call, want letter, wantE api.Errno) {
	w.t.Helper()
	if l, e := c.do(w.a); !sameLetter(l, want) || e != wantE {
		w.t.Fatalf("%v: %v = %s, %d, want %s, %d", w.calls, c, showLetter(l), e, showLetter(want), wantE)
	}
}

func (w *twin) works(calls ...call) {
	w.t.Helper()
	for _, c := range calls {
		if e := w.do(c); e != api.OK {
			w.t.Fatalf("%v: %v = %d, want OK", w.calls, c, e)
		}
	}
}

// fails checks the error as a number too, which the test names, so that not only the plain network tells it.
func (w *twin) fails(c call, want api.Errno) {
	w.t.Helper()
	if e := w.do(c); e != want {
		w.t.Fatalf("%v: %v = %d, want %d", w.calls, c, e, want)
	}
}

// lens checks Len for all arguments that there are.
func (w *twin) lens() {
	w.t.Helper()
	for to := range 256 {
		want := 0
		if to <= theChair {
			want = len(w.m.to[to])
		}
		if n := w.a.Len(uint8(to)); n != want {
			w.t.Fatalf("%v: Len(%d) = %d, want %d", w.calls, to, n, want)
		}
	}
}

// gone takes all letters away, each from the front, and checks them.
func (w *twin) gone() {
	w.t.Helper()
	w.lens()
	for to := range uint8(theChair + 1) {
		for range len(w.m.to[to]) {
			w.works(takeOf(to, 0))
		}
		w.fails(takeOf(to, 0), api.ErrNone)
	}
	w.lens()
}

// holds checks which letters there are to one endpoint, as the test names them, by taking them away.
func (w *twin) holds(to uint8, texts ...string) {
	w.t.Helper()
	if n := w.a.Len(to); n != len(texts) {
		w.t.Fatalf("%v: Len(%d) = %d, want %d", w.calls, to, n, len(texts))
	}
	for _, want := range texts {
		l, e := w.a.Take(to, 0)
		if e != api.OK || l.To != to || string(l.B) != want {
			w.t.Fatalf("%v: Take(%d, 0) = %s, %d, want %q", w.calls, to, showLetter(l), e, want)
		}
	}
	w.m.to[to] = nil
	w.fails(takeOf(to, 0), api.ErrNone)
}

// The numbers beyond all edges, some of which would be in range if they were cut short.

func strange() []int {
	l := []int{math.MinInt, math.MinInt + 1, math.MinInt + 2, math.MinInt32, math.MaxInt32, math.MaxInt - 1, math.MaxInt}
	for _, cut := range []int64{1 << 8, 1 << 16, 1 << 31, 1 << 32} {
		for n := int64(-2); n <= 3; n++ {
			l = append(l, int(cut+n), int(-cut+n))
		}
	}
	// Where an int has 32 bits, those beyond are cut short indeed.
	return slices.DeleteFunc(l, func(n int) bool { return n >= -10 && n < 10 })
}

// ends are endpoints, with a name for what they are.
func ends() []uint8 { return []uint8{0, 3, 7, 8, 11, 15, 16} }

func noEnds() []uint8 { return []uint8{17, 18, 24, 32, 127, 128, 144, 255} }
