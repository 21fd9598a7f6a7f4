package code_test

import (
	"bytes"
	"encoding/binary"
	"fmt"
	"math"
	"slices"
	"strings"
	"testing"

	"waystation/api"
	"waystation/code"
)

const letters = "abcdt"

// most is the greatest number that fits each letter of numbers.
var most = map[byte]uint64{
	'a': math.MaxUint8,
	'b': math.MaxUint16,
	'c': math.MaxUint32,
	'd': math.MaxUint64,
}

func text(size int) code.Value {
	return code.Value{S: strings.Repeat("x", size)}
}

func number(n uint64) code.Value {
	return code.Value{N: n}
}

// encodes checks that Encode returns these bytes, and that Decode takes them back.
func encodes(t *testing.T, shape string, l []code.Value, want string) {
	t.Helper()
	b, e := code.Encode(shape, l)
	if e != api.OK || string(b) != want {
		t.Errorf("Encode(%.20q, %.60v) = %.60x, %d, want %.60x, OK", shape, l, b, e, want)
	}
	back, e := code.Decode(shape, []byte(want))
	if e != api.OK || !slices.Equal(back, l) {
		t.Errorf("Decode(%.20q, %.60x) = %.60v, %d, want %.60v, OK", shape, want, back, e, l)
	}
}

func encodeFails(t *testing.T, shape string, l []code.Value, want api.Errno) {
	t.Helper()
	if b, e := code.Encode(shape, l); e != want || len(b) != 0 {
		t.Errorf("Encode(%.20q, %d values) = %.60x, %d, want none, %d", shape, len(l), b, e, want)
	}
}

func decodeFails(t *testing.T, shape string, b []byte, want api.Errno) {
	t.Helper()
	if l, e := code.Decode(shape, b); e != want || len(l) != 0 {
		t.Errorf("Decode(%.20q, %d bytes) = %.60v, %d, want none, %d", shape, len(b), l, e, want)
	}
}

func TestExample(t *testing.T) {
	encodes(t, "bt", []code.Value{{N: 258}, {S: "x"}}, "\x01\x02\x00\x01x")
}

// P2.1, P2.2

func TestEachLetter(t *testing.T) {
	encodes(t, "a", []code.Value{{N: 0x12}}, "\x12")
	encodes(t, "b", []code.Value{{N: 0x1234}}, "\x12\x34")
	encodes(t, "c", []code.Value{{N: 0x12345678}}, "\x12\x34\x56\x78")
	encodes(t, "d", []code.Value{{N: 0x123456789abcdef0}}, "\x12\x34\x56\x78\x9a\xbc\xde\xf0")
	encodes(t, "t", []code.Value{{S: "abc"}}, "\x00\x03abc")
	encodes(t, "abcd", make([]code.Value, 4), strings.Repeat("\x00", 15))
	encodes(t, "t", make([]code.Value, 1), "\x00\x00")
	encodes(t, "tatb",
		[]code.Value{{S: "\x00\xff"}, {N: 7}, {S: "é"}, {N: 0xff00}},
		"\x00\x02\x00\xff\x07\x00\x02\xc3\xa9\xff\x00")
}

func TestEmptyShape(t *testing.T) {
	for _, l := range [][]code.Value{nil, {}} {
		encodes(t, "", l, "")
	}
	for _, b := range [][]byte{nil, {}} {
		if l, e := code.Decode("", b); len(l) != 0 || e != api.OK {
			t.Errorf("Decode of nothing = %v, %d", l, e)
		}
	}
	encodeFails(t, "", make([]code.Value, 1), api.ErrArg)
	decodeFails(t, "", []byte{0}, api.ErrForm)
}

func TestLettersOfAShape(t *testing.T) {
	for i := range 256 {
		letter := string([]byte{byte(i)})
		if strings.Contains(letters, letter) {
			continue
		}
		for _, shape := range []string{letter, letter + "ab", "a" + letter + "b", "ab" + letter} {
			l := make([]code.Value, len(shape))
			encodeFails(t, shape, l, api.ErrArg)
			for size := range 5 {
				decodeFails(t, shape, make([]byte, size), api.ErrArg)
			}
		}
	}
	for _, shape := range []string{"é", "а", "\xff", "a b", "aé", "日"} {
		for n := range 5 {
			encodeFails(t, shape, make([]code.Value, n), api.ErrArg)
			decodeFails(t, shape, make([]byte, n), api.ErrArg)
		}
	}
}

func TestNumberOfLetters(t *testing.T) {
	for _, letter := range letters {
		shape := strings.Repeat(string(letter), 100)
		l := make([]code.Value, 100)
		one, _ := code.Encode(string(letter), l[:1])
		encodes(t, shape, l, strings.Repeat(string(one), 100))
		for _, n := range []int{101, 102, 200, 256, 356, 70000} {
			shape := strings.Repeat(string(letter), n)
			encodeFails(t, shape, make([]code.Value, n), api.ErrArg)
			encodeFails(t, shape, l, api.ErrArg)
			decodeFails(t, shape, make([]byte, n*len(one)), api.ErrArg)
			decodeFails(t, shape, nil, api.ErrArg)
		}
	}
}

func TestNumberOfValues(t *testing.T) {
	for _, shape := range []string{"a", "t", "abcdt", "ttt", strings.Repeat("a", 100)} {
		for n := range len(shape) + 3 {
			if n != len(shape) {
				encodeFails(t, shape, make([]code.Value, n), api.ErrArg)
			}
		}
		encodeFails(t, shape, nil, api.ErrArg)
		encodeFails(t, shape, make([]code.Value, 1000), api.ErrArg)
	}
}

func TestGreatestNumber(t *testing.T) {
	for letter, n := range most {
		shape := string(letter)
		b, _ := code.Encode(shape, make([]code.Value, 1))
		encodes(t, shape, []code.Value{{N: n}}, strings.Repeat("\xff", len(b)))
		encodes(t, shape, []code.Value{{N: n - 1}}, strings.Repeat("\xff", len(b)-1)+"\xfe")
		if letter == 'd' {
			continue // one more is no number
		}
		for _, more := range []uint64{n + 1, n + 2, 2 * (n + 1), 1 << 32, 1 << 63, math.MaxUint64} {
			encodeFails(t, shape, []code.Value{{N: more}}, api.ErrArg)
			encodeFails(t, "t"+shape+"d", []code.Value{{}, {N: more}, {}}, api.ErrArg)
		}
	}
}

func TestNumberWithAString(t *testing.T) {
	for letter := range most {
		for _, n := range []uint64{0, 1} {
			encodeFails(t, string(letter), []code.Value{{N: n, S: "x"}}, api.ErrArg)
			encodeFails(t, string(letter), []code.Value{{N: n, S: "\x00"}}, api.ErrArg)
		}
		encodeFails(t, "t"+string(letter), []code.Value{{}, text(2000)}, api.ErrArg)
	}
}

func TestStringWithANumber(t *testing.T) {
	for _, n := range []uint64{1, 2, 256, 1 << 32, math.MaxUint64} {
		encodeFails(t, "t", []code.Value{{N: n}}, api.ErrArg)
		encodeFails(t, "t", []code.Value{{N: n, S: "x"}}, api.ErrArg)
		encodeFails(t, "at", []code.Value{{}, {N: n, S: "ab"}}, api.ErrArg)
	}
}

func TestLongestString(t *testing.T) {
	encodes(t, "t", []code.Value{text(255)}, "\x00\xff"+text(255).S)
	encodes(t, "t", []code.Value{text(256)}, "\x01\x00"+text(256).S)
	encodes(t, "t", []code.Value{text(1999)}, "\x07\xcf"+text(1999).S)
	encodes(t, "t", []code.Value{text(2000)}, "\x07\xd0"+text(2000).S)
	encodes(t, "ta", []code.Value{text(2000), number(5)}, "\x07\xd0"+text(2000).S+"\x05")
	for _, size := range []int{2001, 2002, 3998, 3999, 4000, 65535, 65536, 65537, 100000} {
		encodeFails(t, "t", []code.Value{text(size)}, api.ErrArg)
	}
	for _, size := range []int{2001, 2002, 3998, 3999, 65535} {
		b := binary.BigEndian.AppendUint16(nil, uint16(size))
		decodeFails(t, "t", append(b, text(size).S...), api.ErrForm)
	}
}

// longest are values whose encodings have about as many bytes as a result may have, and their sizes.
func longest() []struct {
	shape string
	l     []code.Value
	size  int
} {
	hundred := strings.Repeat("t", 100)
	forty := slices.Repeat([]code.Value{text(38)}, 100)
	return []struct {
		shape string
		l     []code.Value
		size  int
	}{
		{"tt", []code.Value{text(2000), text(1995)}, 3999},
		{"tt", []code.Value{text(2000), text(1996)}, 4000},
		{"tt", []code.Value{text(2000), text(1997)}, 4001},
		{"tt", []code.Value{text(1997), text(2000)}, 4001},
		{"tt", []code.Value{text(2000), text(2000)}, 4004},
		{"ttt", []code.Value{text(2000), text(1994), text(0)}, 4000},
		{"ttt", []code.Value{text(2000), text(1995), text(0)}, 4001},
		{"ttd", []code.Value{text(2000), text(1988), number(1)}, 4000},
		{"ttd", []code.Value{text(2000), text(1989), number(1)}, 4001},
		{"cttba", []code.Value{number(1), text(2000), text(1989), number(1), number(1)}, 4000},
		{"cttba", []code.Value{number(1), text(2000), text(1990), number(1), number(1)}, 4001},
		{hundred, forty, 4000},
		{hundred, append(slices.Clone(forty[:99]), text(39)), 4001},
		{hundred, slices.Repeat([]code.Value{text(2000)}, 100), 200200},
	}
}

func TestLongestResult(t *testing.T) {
	for _, x := range longest() {
		b := plain(x.shape, x.l)
		if len(b) != x.size {
			t.Fatalf("the test's own bytes: %d, want %d", len(b), x.size)
		}
		if x.size <= 4000 {
			encodes(t, x.shape, x.l, string(b))
			continue
		}
		encodeFails(t, x.shape, x.l, api.ErrBig)
		decodeFails(t, x.shape, b, api.ErrForm)
	}
}

// plain encodes without looking at any limit.
func plain(shape string, l []code.Value) []byte {
	var b []byte
	for i, v := range l {
		switch shape[i] {
		case 'a':
			b = append(b, byte(v.N))
		case 'b':
			b = binary.BigEndian.AppendUint16(b, uint16(v.N))
		case 'c':
			b = binary.BigEndian.AppendUint32(b, uint32(v.N))
		case 'd':
			b = binary.BigEndian.AppendUint64(b, v.N)
		case 't':
			b = append(binary.BigEndian.AppendUint16(b, uint16(len(v.S))), v.S...)
		}
	}
	return b
}

// TestArgAheadOfBig: R2.
func TestArgAheadOfBig(t *testing.T) {
	big := []code.Value{text(2000), text(2000)}
	with := func(v ...code.Value) []code.Value { return append(slices.Clone(big), v...) }
	encodeFails(t, "tt", big, api.ErrBig)
	for _, x := range []struct {
		shape string
		l     []code.Value
	}{
		{"tta", with(number(256))},
		{"tta", with(text(1))},
		{"ttt", with(number(1))},
		{"ttt", with(text(2001))},
		{"att", append([]code.Value{number(256)}, big...)},
		{"tte", with(number(1))},
		{"tta", big},
		{"ttt", big},
		{"tt", with(number(1))},
		{strings.Repeat("t", 101), slices.Repeat(big[:1], 101)},
	} {
		encodeFails(t, x.shape, x.l, api.ErrArg)
	}
}

// TestArgAheadOfForm: R2.
func TestArgAheadOfForm(t *testing.T) {
	for _, shape := range []string{"e", "ae", "ea", "te", strings.Repeat("a", 101)} {
		for _, size := range []int{0, 1, 2, 50, 100, 101, 102, 4000, 4001} {
			decodeFails(t, shape, make([]byte, size), api.ErrArg)
			decodeFails(t, shape, bytes.Repeat([]byte{0xff}, size), api.ErrArg)
		}
	}
}

func TestBytesThatEndEarlyOrLate(t *testing.T) {
	l := []code.Value{{N: 1}, {S: "abc"}, {N: 2}, {}, {N: 3}, {N: 4}, {S: "de"}}
	shape := "atbtcdt"
	b, e := code.Encode(shape, l)
	if e != api.OK {
		t.Fatalf("Encode = %d", e)
	}
	for size := range b {
		decodeFails(t, shape, b[:size], api.ErrForm)
		// What lies behind a slice in memory is none of it.
		decodeFails(t, shape, b[:size:size], api.ErrForm)
	}
	for _, more := range []byte{0, 1, 't', 0xff} {
		decodeFails(t, shape, append(slices.Clone(b), more), api.ErrForm)
	}
	for _, letter := range letters {
		one, _ := code.Encode(string(letter), make([]code.Value, 1))
		for size := range len(one) + 4 {
			if size != len(one) {
				decodeFails(t, string(letter), make([]byte, size), api.ErrForm)
			}
		}
	}
	decodeFails(t, shape, nil, api.ErrForm)
	decodeFails(t, shape, make([]byte, 4001), api.ErrForm)
}

func TestLengthThatIsNotThere(t *testing.T) {
	for _, b := range []string{"\x00\x01", "\x00\x02x", "\x00\x01xy", "\x00\x00x", "\x01\x00x", "\xff\xff", "\x07\xd0x"} {
		decodeFails(t, "t", []byte(b), api.ErrForm)
	}
	decodeFails(t, "ta", []byte("\x00\x01x"), api.ErrForm)
	decodeFails(t, "tt", []byte("\x00\x03\x00\x00\x00"), api.ErrForm)
}

// P2.3

func TestSign(t *testing.T) {
	for _, x := range []struct {
		n int64
		u uint64
	}{
		{math.MinInt64, 0},
		{math.MinInt64 + 1, 1},
		{-258, 1<<63 - 258},
		{-1, 1<<63 - 1},
		{0, 1 << 63},
		{1, 1<<63 + 1},
		{258, 1<<63 + 258},
		{math.MaxInt64 - 1, math.MaxUint64 - 1},
		{math.MaxInt64, math.MaxUint64},
	} {
		if u := code.Sign(x.n); u != x.u {
			t.Errorf("Sign(%d) = %d, want %d", x.n, u, x.u)
		}
		if n := code.Unsign(x.u); n != x.n {
			t.Errorf("Unsign(%d) = %d, want %d", x.u, n, x.n)
		}
	}
}

// P2.4

// source makes numbers that are the same in each run.
type source uint64

func (s *source) next(below int) int {
	*s = *s*6364136223846793005 + 1442695040888963407
	return int(uint64(*s) >> 33 % uint64(below))
}

func (s *source) shape(letters string, most int) string {
	b := make([]byte, s.next(most+1))
	for i := range b {
		b[i] = letters[s.next(len(letters))]
	}
	return string(b)
}

func (s *source) values(shape string) []code.Value {
	l := make([]code.Value, len(shape))
	for i := range l {
		if shape[i] == 't' {
			b := make([]byte, s.next(50))
			for j := range b {
				b[j] = byte(s.next(256))
			}
			l[i].S = string(b)
			continue
		}
		l[i].N = (uint64(s.next(1<<31))<<33 ^ uint64(s.next(1<<31))) & most[shape[i]] >> s.next(64)
	}
	return l
}

func TestBackOfValues(t *testing.T) {
	s := source(1)
	for range 3000 {
		shape := s.shape(letters, 100)
		l := s.values(shape)
		if b := plain(shape, l); len(b) <= 4000 {
			encodes(t, shape, l, string(b))
		} else {
			encodeFails(t, shape, l, api.ErrBig)
		}
	}
}

func TestBackOfBytes(t *testing.T) {
	s := source(2)
	taken := 0
	for range 100000 {
		shape := s.shape(letters, 4)
		b := make([]byte, s.next(16))
		for i := range b {
			// Small bytes for the most part, so that they are often lengths of strings that are there.
			b[i] = byte(s.next(256) >> (8 - s.next(9)))
		}
		l, e := code.Decode(shape, b)
		if e != api.OK {
			decodeFails(t, shape, b, api.ErrForm)
			continue
		}
		taken++
		if back, e := code.Encode(shape, l); e != api.OK || !bytes.Equal(back, b) {
			t.Fatalf("%q: Encode of Decode of %x = %x, %d", shape, b, back, e)
		}
	}
	if taken < 1000 {
		t.Errorf("only %d of the bytes were taken", taken)
	}
}

func TestAllBytesOfAShortShape(t *testing.T) {
	for i := range 1 << 16 {
		b := binary.BigEndian.AppendUint16(nil, uint16(i))
		encodes(t, "b", []code.Value{{N: uint64(i)}}, string(b))
		encodes(t, "aa", []code.Value{{N: uint64(i >> 8)}, {N: uint64(i & 255)}}, string(b))
		if i > 0 {
			decodeFails(t, "t", b, api.ErrForm)
		}
	}
}

func TestUnsignOfSign(t *testing.T) {
	for i := range 64 {
		for _, near := range []int64{-1, 0, 1} {
			for _, n := range []int64{1<<i + near, -1<<i + near} {
				if back := code.Unsign(code.Sign(n)); back != n {
					t.Errorf("Unsign of Sign of %d = %d", n, back)
				}
				if back := code.Sign(code.Unsign(uint64(n))); back != uint64(n) {
					t.Errorf("Sign of Unsign of %d = %d", uint64(n), back)
				}
			}
		}
	}
}

// P2.5

func TestSignRises(t *testing.T) {
	var l []int64
	for i := range 64 {
		for _, near := range []int64{-1, 0, 1} {
			l = append(l, 1<<i+near, -1<<i+near)
		}
	}
	slices.Sort(l)
	l = slices.Compact(l)
	if l[0] != math.MinInt64 || l[len(l)-1] != math.MaxInt64 {
		t.Fatal("the test's own numbers lack the least or the greatest")
	}
	for i := range len(l) - 1 {
		if code.Sign(l[i]) >= code.Sign(l[i+1]) {
			t.Errorf("Sign(%d) is not below Sign(%d)", l[i], l[i+1])
		}
	}
}

func TestEncodingsRise(t *testing.T) {
	for letter, greatest := range most {
		l := []uint64{0, greatest}
		for i := range 64 {
			for _, near := range []uint64{0, 1, 2} {
				l = append(l, (1<<i+near-1)&greatest)
			}
		}
		slices.Sort(l)
		l = slices.Compact(l)
		var before []byte
		for _, n := range l {
			b, e := code.Encode(string(letter), []code.Value{{N: n}})
			if e != api.OK || bytes.Compare(before, b) >= 0 {
				t.Errorf("%c: Encode of %d = %x, %d, not above %x", letter, n, b, e, before)
			}
			before = b
		}
	}
}

// TestNothingIsShared: R6.
func TestNothingIsShared(t *testing.T) {
	l := []code.Value{{N: 258}, {S: "abc"}}
	b, _ := code.Encode("bt", l)
	other, _ := code.Encode("bt", l)
	if !slices.Equal(l, []code.Value{{N: 258}, {S: "abc"}}) {
		t.Errorf("Encode changed its values: %v", l)
	}
	const want = "\x01\x02\x00\x03abc"
	back, _ := code.Decode("bt", b)
	second, _ := code.Decode("bt", b)
	if string(b) != want {
		t.Errorf("Decode changed its bytes: %x", b)
	}
	clear(b)
	clear(l)
	if string(other) != want {
		t.Errorf("two results of Encode share memory: %x", other)
	}
	clear(second)
	if !slices.Equal(back, []code.Value{{N: 258}, {S: "abc"}}) {
		t.Errorf("a result of Decode shares memory: %v", back)
	}
}

// TestSameAnswers: R4, what was asked ahead does not matter.
func TestSameAnswers(t *testing.T) {
	ask := func() string {
		b, e := code.Encode("at", []code.Value{{N: 1}, {S: "x"}})
		l, f := code.Decode("at", b)
		return fmt.Sprint(b, e, l, f)
	}
	want := ask()
	encodeFails(t, "a", []code.Value{{N: 256}}, api.ErrArg)
	decodeFails(t, "aat", []byte{1, 2}, api.ErrForm)
	encodeFails(t, "tt", []code.Value{text(2000), text(2000)}, api.ErrBig)
	if got := ask(); got != want {
		t.Errorf("%s, want %s", got, want)
	}
}
