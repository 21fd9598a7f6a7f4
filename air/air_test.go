package air_test

import (
	"bytes"
	"fmt"
	"slices"
	"testing"

	"waystation/air"
	"waystation/api"
)

// The calls, as the chapter writes them.
var (
	_ func(int) *air.Air                                 = air.New
	_ func(*air.Air, air.Letter) api.Errno               = (*air.Air).Send
	_ func(*air.Air, uint8, int) (air.Letter, api.Errno) = (*air.Air).Take
	_ func(*air.Air, uint8, int) api.Errno               = (*air.Air).Again
	_ func(*air.Air, uint8, int, uint16, byte) api.Errno = (*air.Air).Turn
	_ func(*air.Air, uint8) int                          = (*air.Air).Len
	_ struct {
		From, To uint8
		B        []byte
	} = struct {
		From, To uint8
		B        []byte
	}(air.Letter{})
	_ uint8   = air.Chair
	_ int     = air.Chair
	_ float64 = air.Chair // the constant has no type
)

func TestChair(t *testing.T) {
	if air.Chair != 16 {
		t.Errorf("Chair = %d", air.Chair)
	}
}

func TestExample(t *testing.T) {
	w := after(t, 2, sendOf(1, 3, []byte("a")), sendOf(2, 3, []byte("b")))
	w.is(takeOf(3, 1), letterOf(2, 3, "b"), api.OK)
	w.is(takeOf(3, 0), letterOf(1, 3, "a"), api.OK)
	w.is(takeOf(3, 0), letter{}, api.ErrNone)
}

// P18.1

func TestNew(t *testing.T) {
	for _, room := range []int{1, 2, 3, 255, 256, 257, 999, 1000} {
		newTwin(t, room).gone()
	}
	for _, room := range append([]int{-1000, -2, -1, 0, 1001, 1002, 2000, 9999, 10000, 10001, 65536}, strange()...) {
		if room >= 1 && room <= mostRoom {
			continue // some of the strange ones are rooms
		}
		if a := air.New(room); a != nil {
			t.Errorf("New(%d) is a network", room)
		}
	}
}

func TestEachRoom(t *testing.T) {
	for room := -10; room <= mostRoom+10; room++ {
		if a := air.New(room); (a != nil) != (room >= 1 && room <= mostRoom) {
			t.Errorf("New(%d): %t", room, a != nil)
		}
	}
}

// TestNetworksAreApart: what happens to one has no effect on another.
func TestNetworksAreApart(t *testing.T) {
	first := after(t, 2, sendOf(1, 3, []byte("a")), sendOf(1, 16, []byte("b")))
	second := newTwin(t, 3)
	second.lens()
	second.works(sendOf(1, 3, []byte("c")), againOf(3, 0), turnOf(3, 0, 0, 1), sendOf(2, 3, nil))
	first.lens()
	first.works(turnOf(3, 0, 0, 2), againOf(3, 0))
	first.fails(againOf(3, 0), api.ErrFull)
	second.gone()
	first.gone()
}

// someCalls are calls of all kinds, right and wrong.
func someCalls() []call {
	var l []call
	for _, to := range append(ends(), noEnds()...) {
		for _, at := range append([]int{-2, -1, 0, 1, 2, 3, 999, 1000}, strange()...) {
			l = append(l, takeOf(to, at), againOf(to, at), turnOf(to, at, 0, 1), turnOf(to, at, 65535, 255))
		}
		for _, from := range append(ends(), noEnds()...) {
			for _, size := range []int{0, 1, longest, longest + 1} {
				l = append(l, sendOf(from, to, bytesOf(size)))
			}
		}
	}
	return l
}

func TestNetworksThatNewDidNotCreate(t *testing.T) {
	var zero air.Air
	for name, a := range map[string]*air.Air{"nil": nil, "literal": {}, "new": new(air.Air), "variable": &zero} {
		for range 2 {
			for _, c := range someCalls() {
				if l, e := c.do(a); e != api.ErrNil || !sameLetter(l, letter{}) {
					t.Errorf("%s: %v = %s, %d", name, c, showLetter(l), e)
				}
			}
			for to := range 256 {
				if n := a.Len(uint8(to)); n != 0 {
					t.Errorf("%s: Len(%d) = %d", name, to, n)
				}
			}
		}
	}
}

// P18.2

func TestSend(t *testing.T) {
	w := newTwin(t, 3)
	w.works(sendOf(16, 3, []byte("to a station")), sendOf(3, 12, []byte("to a mobile")), sendOf(3, 16, []byte("to the chair")), sendOf(3, 3, []byte("to itself")))
	w.lens()
	w.is(takeOf(12, 0), letterOf(3, 12, "to a mobile"), api.OK)
	w.is(takeOf(16, 0), letterOf(3, 16, "to the chair"), api.OK)
	w.is(takeOf(3, 0), letterOf(16, 3, "to a station"), api.OK)
	w.is(takeOf(3, 0), letterOf(3, 3, "to itself"), api.OK)
}

func TestEachFromAndTo(t *testing.T) {
	w := newTwin(t, 1)
	for from := range 256 {
		for to := range 256 {
			c := sendOf(uint8(from), uint8(to), []byte{byte(from), byte(to)})
			if from > theChair || to > theChair {
				w.fails(c, api.ErrArg)
				continue
			}
			w.works(c)
			w.fails(c, api.ErrFull)
			w.is(takeOf(uint8(to), 0), c.l, api.OK)
			w.m.to[to] = nil
		}
	}
	w.gone()
}

func TestSizes(t *testing.T) {
	for _, to := range ends() {
		w := newTwin(t, 100)
		for _, size := range []int{0, 1, 2, 255, 256, 257, 3999, longest} {
			w.works(sendOf(2, to, bytesOf(size)))
		}
		w.works(sendOf(2, to, nil), sendOf(2, to, []byte{}))
		for _, size := range []int{longest + 1, longest + 2, 4096, 8000, 65535, 65536, 65537, 65536 + longest, 1 << 20} {
			w.fails(sendOf(2, to, bytesOf(size)), api.ErrBig)
		}
		w.gone()
	}
}

func TestEachSize(t *testing.T) {
	w := newTwin(t, 1)
	for size := range longest + 100 {
		w.do(sendOf(1, 2, bytesOf(size)))
		w.do(turnOf(2, 0, uint16(size), 1))
		w.do(takeOf(2, 0))
		w.calls = nil
	}
	w.gone()
}

// TestBytesThatAreNoUTF8: all bytes come as they were sent.
func TestBytesThatAreNoUTF8(t *testing.T) {
	var all []byte
	for x := range 256 {
		all = append(all, byte(x))
	}
	w := newTwin(t, 300)
	w.works(sendOf(1, 2, all), againOf(2, 0), sendOf(1, 2, []byte("\xff\xfe\x80\xc3(\xed\xa0\x80\x00")))
	for x := range 256 {
		w.works(sendOf(1, 2, []byte{byte(x)}))
	}
	w.gone()
}

func TestFull(t *testing.T) {
	for _, room := range []int{1, 2, 3, 10, 255, 256, 257, 999, mostRoom} {
		for _, to := range ends() {
			w := newTwin(t, room)
			for n := range room {
				w.works(sendOf(uint8(n%17), to, []byte{byte(n), byte(n >> 8)}))
			}
			w.fails(sendOf(1, to, []byte("x")), api.ErrFull)
			w.fails(sendOf(1, to, nil), api.ErrFull)
			for _, at := range []int{0, room / 2, room - 1} {
				w.fails(againOf(to, at), api.ErrFull)
			}
			w.works(takeOf(to, room/2))
			w.lens()
			w.works(sendOf(1, to, []byte("y")))
			w.fails(sendOf(1, to, []byte("x")), api.ErrFull)
			w.fails(againOf(to, room-1), api.ErrFull)
			w.gone()
		}
	}
}

func TestAgainUpToTheRoom(t *testing.T) {
	for _, room := range []int{1, 2, 3, 999, mostRoom} {
		w := after(t, room, sendOf(1, 5, []byte("a")))
		for range room - 1 {
			w.works(againOf(5, 0))
		}
		w.fails(againOf(5, 0), api.ErrFull)
		w.fails(againOf(5, room-1), api.ErrFull)
		w.fails(sendOf(1, 5, nil), api.ErrFull)
		w.works(takeOf(5, 0))
		if room > 1 {
			w.works(againOf(5, room-2))
			w.fails(againOf(5, 0), api.ErrFull)
		}
		w.gone()
	}
}

// TestEachRoomIsFull: there is room for as many as New was told, and no more, to each endpoint.
func TestEachRoomIsFull(t *testing.T) {
	for room := 1; room <= mostRoom; room++ {
		w := newTwin(t, room)
		to := uint8(room % 17)
		for w.a.Send(letter{From: 1, To: to}) == api.OK {
			if w.a.Len(to) > room {
				t.Fatalf("room %d: Len(%d) = %d", room, to, w.a.Len(to))
			}
		}
		if n := w.a.Len(to); n != room {
			t.Errorf("room %d: Len(%d) = %d", room, to, n)
		}
		if e := w.a.Again(to, room-1); e != api.ErrFull {
			t.Errorf("room %d: Again = %d", room, e)
		}
	}
}

// TestAllEndpointsAreFull: the letters to one take no room from another one.
func TestAllEndpointsAreFull(t *testing.T) {
	w := newTwin(t, 40)
	for n := range 40 {
		for to := range uint8(theChair + 1) {
			w.works(sendOf(16-to, to, bytesOf(n)))
		}
	}
	for to := range uint8(theChair + 1) {
		w.fails(sendOf(1, to, nil), api.ErrFull)
		w.fails(againOf(to, 39), api.ErrFull)
	}
	w.gone()
}

// P18.3

// sent is letters of different bytes, senders and lengths to an endpoint.
func sent(to uint8, n int) []call {
	var l []call
	for i := range n {
		l = append(l, sendOf(uint8(i%17), to, bytes.Repeat([]byte{byte('a' + i)}, i+1)))
	}
	return l
}

func TestTakeOfEachPlace(t *testing.T) {
	for _, to := range ends() {
		for n := 1; n <= 7; n++ {
			for at := range n {
				w := after(t, 7, sent(to, n)...)
				w.is(takeOf(to, at), sent(to, n)[at].l, api.OK)
				var rest []string
				for i, c := range sent(to, n) {
					if i != at {
						rest = append(rest, string(c.l.B))
					}
				}
				w.holds(to, rest...)
			}
		}
	}
}

func TestTakeFromFrontMiddleAndEnd(t *testing.T) {
	w := after(t, 5, sendOf(1, 3, []byte("a")), sendOf(1, 3, []byte("b")), sendOf(1, 3, []byte("c")), sendOf(1, 3, []byte("d")), sendOf(1, 3, []byte("e")))
	w.is(takeOf(3, 0), letterOf(1, 3, "a"), api.OK)
	w.is(takeOf(3, 0), letterOf(1, 3, "b"), api.OK)
	w.is(takeOf(3, 1), letterOf(1, 3, "d"), api.OK)
	w.is(takeOf(3, 1), letterOf(1, 3, "e"), api.OK)
	w.holds(3, "c")
}

// TestAllOrdersOfTake: five letters, taken in each order that there is.
func TestAllOrdersOfTake(t *testing.T) {
	for order := range 5 * 4 * 3 * 2 {
		w := after(t, 5, sent(9, 5)...)
		rest := order
		for left := 5; left > 0; left-- {
			w.works(takeOf(9, rest%left))
			rest /= left
			w.lens()
		}
		w.gone()
	}
}

func TestAgainOfEachPlace(t *testing.T) {
	for _, to := range ends() {
		for n := 1; n <= 6; n++ {
			for at := range n {
				w := after(t, 7, sent(to, n)...)
				w.works(againOf(to, at))
				w.lens()
				if l, e := w.a.Take(to, n); e != api.OK || !sameLetter(l, sent(to, n)[at].l) {
					t.Errorf("the copy of %d of %d = %s, %d", at, n, showLetter(l), e)
				}
				var all []string
				for _, c := range sent(to, n) {
					all = append(all, string(c.l.B))
				}
				w.holds(to, all...)
			}
		}
	}
}

func TestAgainOfACopy(t *testing.T) {
	w := after(t, 10, sendOf(1, 3, []byte("a")), sendOf(2, 3, []byte("bc")), againOf(3, 0), againOf(3, 1), againOf(3, 2), turnOf(3, 2, 0, 1), againOf(3, 2))
	w.holds(3, "a", "bc", "`", "bc", "a", "`")
}

func TestAgainOfNoBytes(t *testing.T) {
	w := after(t, 3, sendOf(1, 16, nil), againOf(16, 0), againOf(16, 1))
	w.gone()
}

func TestPlacesWhereThereIsNoLetter(t *testing.T) {
	for _, n := range []int{0, 1, 2, 5, 300} {
		w := newTwin(t, mostRoom)
		for i := range n {
			w.works(sendOf(1, 4, []byte{byte(i), byte(i >> 8)}))
		}
		for _, at := range append([]int{-300, -n - 1, -n, -2, -1, n, n + 1, 999, 1000}, strange()...) {
			if at >= 0 && at < n {
				continue // some of the strange ones are letters
			}
			for _, c := range []call{takeOf(4, at), againOf(4, at), turnOf(4, at, 0, 1)} {
				w.fails(c, api.ErrNone)
			}
		}
		w.gone()
	}
}

func TestCallsForNoEndpoint(t *testing.T) {
	w := newTwin(t, 2)
	for to := range uint8(theChair + 1) {
		w.works(sendOf(0, to, []byte("a")))
	}
	for to := 17; to < 256; to++ {
		for _, at := range append([]int{-1, 0, 1}, strange()...) {
			for _, c := range []call{takeOf(uint8(to), at), againOf(uint8(to), at), turnOf(uint8(to), at, 0, 1)} {
				w.fails(c, api.ErrArg)
			}
		}
	}
	w.gone()
}

// TestTurnOfEachByte: each byte of a letter, by its own place and by places above the length.
func TestTurnOfEachByte(t *testing.T) {
	for _, size := range []int{1, 2, 3, 7} {
		for i := range size {
			for _, place := range []int{i, i + size, i + 2*size, i + 100*size} {
				w := after(t, 1, sendOf(1, 3, bytesOf(size)), turnOf(3, 0, uint16(place), 5))
				want := bytesOf(size)
				want[i] ^= 5
				w.is(takeOf(3, 0), letter{From: 1, To: 3, B: want}, api.OK)
			}
		}
	}
}

func TestTurnBy(t *testing.T) {
	for _, x := range []struct {
		place uint16
		by    byte
		want  string
	}{
		{0, 1, "`bc"}, {1, 1, "acc"}, {2, 1, "abb"}, {3, 1, "`bc"}, {5, 1, "abb"}, {65535, 1, "`bc"}, {65534, 1, "abb"},
		{0, 0, "abc"}, {0, 128, "\xe1bc"}, {0, 255, "\x9ebc"}, {0, 'a', "\x00bc"}, {2, 255, "ab\x9c"},
	} {
		w := after(t, 1, sendOf(1, 3, []byte("abc")), turnOf(3, 0, x.place, x.by))
		w.holds(3, x.want)
	}
}

// TestEachByteByEach: all bytes turned by all bytes.
func TestEachByteByEach(t *testing.T) {
	var all []byte
	for x := range 256 {
		all = append(all, byte(x))
	}
	for by := range 256 {
		w := after(t, 1, sendOf(1, 3, all))
		for place := range 256 {
			w.works(turnOf(3, 0, uint16(place), byte(by)))
		}
		w.calls = nil
		w.gone()
	}
}

// TestEachPlace: every place that there is, in letters of several lengths; what was turned so far stays.
func TestEachPlace(t *testing.T) {
	for _, size := range []int{1, 2, 3, 256, longest} {
		w := after(t, 1, sendOf(1, 16, bytesOf(size)))
		b := bytesOf(size)
		for place := range 65536 {
			by := byte(place*31 + place>>8)
			if e := w.a.Turn(16, 0, uint16(place), by); e != api.OK {
				t.Fatalf("size %d: Turn at %d = %d", size, place, e)
			}
			b[place%size] = turned(b[place%size], by)
			if place%size == size-1 || place == 65535 {
				l, e := w.a.Take(16, 0)
				if e != api.OK || !bytes.Equal(l.B, b) {
					t.Fatalf("size %d: behind the Turn at %d: %s, %d", size, place, showLetter(l), e)
				}
				w.a.Send(l)
			}
		}
	}
}

// TestEdgesOfPlaces: one Turn of a letter, at the edges of its length.
func TestEdgesOfPlaces(t *testing.T) {
	for _, size := range []int{1, 2, 3, 3999, longest} {
		for _, place := range []int{0, 1, size - 1, size, size + 1, 2*size - 1, 2 * size, 32767, 32768, 65534, 65535} {
			for _, by := range []byte{0, 1, 127, 128, 255} {
				w := after(t, 2, sendOf(1, 3, bytesOf(size)), sendOf(2, 3, bytesOf(size)), turnOf(3, 0, uint16(place), by))
				w.gone()
			}
		}
	}
}

// TestTurnOfEachLetter: only the one with the index is changed.
func TestTurnOfEachLetter(t *testing.T) {
	for n := 1; n <= 6; n++ {
		for at := range n {
			w := after(t, 6, sent(8, n)...)
			w.works(turnOf(8, at, 0, 32), turnOf(8, at, 9, 128))
			w.gone()
		}
	}
}

// TestTurnTwice: by the same, it is as it was.
func TestTurnTwice(t *testing.T) {
	w := after(t, 1, sendOf(1, 3, []byte("abc")), turnOf(3, 0, 1, 200), turnOf(3, 0, 4, 200))
	w.holds(3, "abc")
}

func TestTurnOfNoBytes(t *testing.T) {
	for _, b := range [][]byte{nil, {}} {
		w := after(t, 3, sendOf(1, 3, b), sendOf(1, 3, []byte("a")))
		for _, place := range []uint16{0, 1, 65535} {
			w.fails(turnOf(3, 0, place, 1), api.ErrNone)
		}
		w.works(turnOf(3, 1, 7, 1))
		w.gone()
	}
}

// R2: which error is returned where several apply

func TestFirstError(t *testing.T) {
	full := after(t, 1, sendOf(1, 3, nil))
	big := bytesOf(longest + 1)
	for _, x := range []struct {
		c    call
		want api.Errno
	}{
		{sendOf(17, 3, big), api.ErrArg},
		{sendOf(17, 17, big), api.ErrArg},
		{sendOf(1, 17, big), api.ErrArg},
		{sendOf(17, 3, nil), api.ErrArg},
		{sendOf(1, 3, big), api.ErrBig},
		{sendOf(1, 3, nil), api.ErrFull},
		{sendOf(1, 3, big[:longest]), api.ErrFull},
		{takeOf(17, -1), api.ErrArg},
		{takeOf(17, 0), api.ErrArg},
		{againOf(17, 1), api.ErrArg},
		{againOf(17, 0), api.ErrArg},
		{againOf(3, 1), api.ErrNone},
		{againOf(3, -1), api.ErrNone},
		{againOf(3, 0), api.ErrFull},
		{turnOf(17, 1, 0, 0), api.ErrArg},
		{turnOf(17, 0, 0, 0), api.ErrArg},
		{turnOf(3, 1, 0, 0), api.ErrNone},
		{turnOf(3, 0, 0, 0), api.ErrNone},
	} {
		full.fails(x.c, x.want)
	}
	full.gone()
}

// TestErrorsOfSend: all conditions of Send, each broken or not.
func TestErrorsOfSend(t *testing.T) {
	for bits := range 32 {
		from, to, size := uint8(2), uint8(3), 4
		w := newTwin(t, 1)
		a := w.a
		var want []api.Errno
		is := func(bit int) bool { return bits&bit != 0 }
		if is(1) {
			a, want = nil, append(want, api.ErrNil)
		}
		if is(2) {
			from, want = 17, append(want, api.ErrArg)
		}
		if is(4) {
			to, want = 17, append(want, api.ErrArg)
		}
		if is(8) {
			size, want = longest+1, append(want, api.ErrBig)
		}
		if is(16) {
			w.works(sendOf(1, 3, []byte("a")))
			want = append(want, api.ErrFull)
		}
		want = append(want, api.OK)
		if e := a.Send(letter{From: from, To: to, B: bytesOf(size)}); e != want[0] {
			t.Errorf("bits %d: %d, want %d", bits, e, want[0])
		}
		if want[0] != api.OK {
			w.gone()
		}
	}
}

// R4: what a call returns depends on the calls ahead of it alone

func TestTheSameCallsReturnTheSame(t *testing.T) {
	rows := [][]call{slices.Concat(sent(3, 3), []call{againOf(3, 1), turnOf(3, 3, 0, 1), takeOf(3, 1), takeOf(3, 5), sendOf(1, 17, nil)})}
	for _, row := range rows {
		var first []string
		for n := range 3 {
			a := air.New(5)
			var told []string
			for _, c := range row {
				l, e := c.do(a)
				told = append(told, fmt.Sprint(showLetter(l), e, a.Len(3)))
			}
			if n == 0 {
				first = told
			}
			if !slices.Equal(told, first) {
				t.Errorf("%v: %v and %v", row, first, told)
			}
		}
	}
}
