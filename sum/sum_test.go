package sum_test

import (
	"bytes"
	"encoding/binary"
	"hash/adler32"
	"slices"
	"testing"

	"waystation/api"
	"waystation/sum"
)

// plainSum is the checksum as the chapter says it, reduced only at the end: right as long as nothing wraps around.
func plainSum(b []byte) uint32 {
	x, y := uint64(1), uint64(0)
	for _, v := range b {
		x += uint64(v)
		y += x
	}
	return uint32(y%65521*65536 + x%65521)
}

// plainFrame makes the frame of any content that a length of two bytes can tell, with any first byte.
func plainFrame(first byte, content []byte) []byte {
	f := binary.BigEndian.AppendUint16([]byte{first}, uint16(len(content)))
	f = append(f, content...)
	return binary.BigEndian.AppendUint32(f, adler32.Checksum(f))
}

// pattern is bytes that differ from place to place.
func pattern(size int) []byte {
	b := make([]byte, size)
	for i := range b {
		b[i] = byte(i*7 + i>>8)
	}
	return b
}

func repeated(v byte, size int) []byte {
	return bytes.Repeat([]byte{v}, size)
}

func firstIs(t *testing.T, b, content []byte, size int) {
	t.Helper()
	got, n, e := sum.First(b)
	if e != api.OK || n != size || !bytes.Equal(got, content) {
		t.Errorf("First(%.40x, %d bytes) = %.40x, %d, %d, want %.40x, %d, OK", b, len(b), got, n, e, content, size)
	}
}

func firstFails(t *testing.T, b []byte, want api.Errno) {
	t.Helper()
	if got, n, e := sum.First(b); e != want || n != 0 || len(got) != 0 {
		t.Errorf("First(%.40x, %d bytes) = %.40x, %d, %d, want none, 0, %d", b, len(b), got, n, e, want)
	}
}

func allAre(t *testing.T, b []byte, contents [][]byte, total int) {
	t.Helper()
	got, n := sum.All(b)
	if n != total || !slices.EqualFunc(got, contents, bytes.Equal) {
		t.Errorf("All(%.40x, %d bytes) = %.40x, %d, want %.40x, %d", b, len(b), got, n, contents, total)
	}
}

// P3.1

func TestExamples(t *testing.T) {
	if s := sum.Sum([]byte("Wikipedia")); s != 0x11e60398 {
		t.Errorf("Sum of Wikipedia = %08x", s)
	}
}

func TestSumOfNoBytes(t *testing.T) {
	for _, b := range [][]byte{nil, {}} {
		if s := sum.Sum(b); s != 1 {
			t.Errorf("Sum of no bytes = %08x", s)
		}
	}
}

func TestSumOfOneByte(t *testing.T) {
	for v := range 256 {
		want := uint32(v+1)<<16 | uint32(v+1)
		if s := sum.Sum([]byte{byte(v)}); s != want {
			t.Errorf("Sum of %02x = %08x, want %08x", v, s, want)
		}
	}
}

func TestSumDependsOnTheOrder(t *testing.T) {
	if sum.Sum([]byte("ab")) != 0x012600c4 || sum.Sum([]byte("ba")) != 0x012700c4 {
		t.Errorf("Sum of ab and ba = %08x, %08x", sum.Sum([]byte("ab")), sum.Sum([]byte("ba")))
	}
}

func TestSumAroundTheModulus(t *testing.T) {
	full := repeated(255, 256) // with the 1 their sum is 65281
	for last, x := range map[byte]uint32{238: 65519, 239: 65520, 240: 0, 241: 1, 255: 15} {
		b := append(slices.Clone(full), last)
		s := sum.Sum(b)
		if s&0xffff != x || s != plainSum(b) {
			t.Errorf("Sum of 256 bytes ff and %02x = %08x, want %08x with %d below", last, s, plainSum(b), x)
		}
	}
	// Zeros add a 1 each to the upper half alone.
	zeros := make([]byte, 65523)
	for size, want := range map[int]uint32{65519: 65519, 65520: 65520, 65521: 0, 65522: 1, 65523: 2} {
		if s := sum.Sum(zeros[:size]); s != want<<16|1 {
			t.Errorf("Sum of %d zeros = %08x, want %08x", size, s, want<<16|1)
		}
	}
}

func TestSumOfManyBytes(t *testing.T) {
	for _, b := range [][]byte{repeated(255, 1<<22), make([]byte, 1<<22), repeated(1, 1<<22), pattern(1 << 22)} {
		sizes := []int{22, 23, 24, 256, 257, 258, 2999, 3000, 5551, 5552, 5553, 65520, 65521, 65522, 1 << 16, 1 << 20, 1<<22 - 1, 1 << 22}
		for size := range 800 {
			sizes = append(sizes, size)
		}
		for _, size := range sizes {
			s := sum.Sum(b[:size])
			if s != plainSum(b[:size]) || s != adler32.Checksum(b[:size]) {
				t.Errorf("Sum of %d bytes (%.4x..) = %08x, want %08x", size, b[:size], s, plainSum(b[:size]))
			}
		}
	}
}

func TestFramesByteByByte(t *testing.T) {
	for content, want := range map[string]string{
		"":         "\x01\x00\x00\x00\x06\x00\x02",
		"\x00":     "\x01\x00\x01\x00\x00\x0a\x00\x03",
		"ab":       "\x01\x00\x02ab\x01\x34\x00\xc7",
		"\xff\xff": "\x01\x00\x02\xff\xff\x03\x0d\x02\x02",
	} {
		f, e := sum.Frame([]byte(content))
		if e != api.OK || string(f) != want {
			t.Errorf("Frame(%x) = %x, %d, want %x, OK", content, f, e, want)
		}
		firstIs(t, []byte(want), []byte(content), len(want))
	}
}

func TestSizesOfFrames(t *testing.T) {
	for _, size := range []int{0, 1, 2, 3, 254, 255, 256, 257, 511, 512, 3999, 4000} {
		for _, b := range [][]byte{pattern(size), make([]byte, size), repeated(255, size)} {
			f, e := sum.Frame(b)
			if e != api.OK || !bytes.Equal(f, plainFrame(1, b)) || len(f) != size+7 {
				t.Errorf("Frame of %d bytes = %.20x (%d bytes), %d", size, f, len(f), e)
			}
			firstIs(t, f, b, size+7)
		}
	}
	if f, e := sum.Frame(nil); e != api.OK || !bytes.Equal(f, plainFrame(1, nil)) {
		t.Errorf("Frame of nil = %x, %d", f, e)
	}
	for _, size := range []int{4001, 4002, 8000, 65535, 65536, 65537, 65536 + 4000, 1 << 20} {
		if f, e := sum.Frame(make([]byte, size)); e != api.ErrBig || len(f) != 0 {
			t.Errorf("Frame of %d bytes = %d bytes, %d, want none, ErrBig", size, len(f), e)
		}
	}
}

// P3.2

func TestFirstOfNothing(t *testing.T) {
	firstFails(t, nil, api.ErrNone)
	firstFails(t, []byte{}, api.ErrNone)
	// What lies behind a slice in memory is none of it.
	firstFails(t, plainFrame(1, []byte("ab"))[:0], api.ErrNone)
}

func TestFirstByteThatIsNotOne(t *testing.T) {
	for v := range 256 {
		first := byte(v)
		if first == 1 {
			continue
		}
		for _, content := range [][]byte{nil, []byte("ab"), pattern(4000)} {
			firstFails(t, plainFrame(first, content), api.ErrForm)
		}
		for _, b := range [][]byte{{first}, {first, 0}, {first, 0, 0}, {first, 255, 255}, {first, 0, 0, 0, 0, 0, 0}} {
			firstFails(t, b, api.ErrForm)
		}
	}
}

func TestFewBytes(t *testing.T) {
	for v := range 256 {
		firstFails(t, []byte{1, byte(v)}, api.ErrForm)
		firstFails(t, []byte{1, 0, byte(v)}, api.ErrForm)
		firstFails(t, []byte{1, byte(v), 0}, api.ErrForm)
	}
	firstFails(t, []byte{1}, api.ErrForm)
}

func TestLengthAboveTheLimit(t *testing.T) {
	for _, size := range []int{4001, 4002, 4095, 4096, 4256, 8000, 32768, 65535} {
		f := plainFrame(1, pattern(size))
		firstFails(t, f, api.ErrForm)
		firstFails(t, f[:3], api.ErrForm)
		firstFails(t, f[:len(f)-1], api.ErrForm)
		firstFails(t, append(slices.Clone(f), 1, 2, 3), api.ErrForm)
		f[len(f)-1]++
		firstFails(t, f, api.ErrForm)
	}
	firstIs(t, plainFrame(1, pattern(4000)), pattern(4000), 4007)
}

func TestFrameThatEndsEarly(t *testing.T) {
	for _, size := range []int{0, 1, 2, 7, 255, 256, 300, 4000} {
		f := plainFrame(1, pattern(size))
		for n := range f {
			if n == 0 {
				continue
			}
			firstFails(t, f[:n], api.ErrForm)
			firstFails(t, f[:n:n], api.ErrForm)
			allAre(t, f[:n], nil, 0)
		}
		// The sum that would be wrong does not matter then.
		wrong := slices.Clone(f)
		wrong[len(f)-4] ^= 1
		firstFails(t, wrong[:len(f)-1], api.ErrForm)
	}
}

func TestWrongSum(t *testing.T) {
	for _, content := range [][]byte{nil, []byte("ab"), pattern(300), pattern(4000)} {
		f := plainFrame(1, content)
		body := f[:len(f)-4]
		right := adler32.Checksum(body)
		for _, wrong := range []uint32{
			0, 1, right + 1, right - 1, ^right, right + 65521, right + 65521<<16,
			right>>16 | right<<16,
			adler32.Checksum(content),
			adler32.Checksum(body[1:]),
			binary.LittleEndian.Uint32(f[len(body):]),
		} {
			if wrong == right {
				t.Fatal("one of the test's own wrong sums is right")
			}
			b := binary.BigEndian.AppendUint32(slices.Clone(body), wrong)
			firstFails(t, b, api.ErrSum)
			firstFails(t, append(b, f...), api.ErrSum)
			allAre(t, append(b, f...), nil, 0)
		}
	}
}

func TestFirstAmongOthers(t *testing.T) {
	f := plainFrame(1, []byte("abc"))
	for _, behind := range [][]byte{{0}, {1}, {255, 255}, plainFrame(1, []byte("de")), plainFrame(2, nil), pattern(9000)} {
		firstIs(t, slices.Concat(f, behind), []byte("abc"), len(f))
	}
	firstIs(t, slices.Concat(plainFrame(1, nil), f), nil, 7)
}

// nonFrames are bytes behind which First and All find nothing, not even if a frame stands there.
func nonFrames() [][]byte {
	broken := plainFrame(1, []byte("xyz"))
	broken[4] ^= 1
	return [][]byte{
		{0},
		{2},
		{255, 1},
		{1, 255, 255},
		{0, 1, 0, 0, 0, 6, 0, 2},
		{1, 0, 0, 0, 6, 0, 3},
		plainFrame(0, []byte("xyz")),
		plainFrame(2, []byte("xyz")),
		plainFrame(1, pattern(4001)),
		broken,
	}
}

func TestAllOfNothing(t *testing.T) {
	allAre(t, nil, nil, 0)
	allAre(t, []byte{}, nil, 0)
	f := plainFrame(1, []byte("ab"))
	for _, behind := range nonFrames() {
		allAre(t, behind, nil, 0)
		allAre(t, slices.Concat(behind, f), nil, 0)
	}
	allAre(t, []byte{1}, nil, 0)
	allAre(t, []byte{1, 0}, nil, 0)
	allAre(t, []byte{1, 0, 0}, nil, 0)
}

func TestAllOfSeveral(t *testing.T) {
	lists := [][][]byte{
		{nil},
		{nil, nil, nil},
		{[]byte("ab")},
		{[]byte("ab"), nil, []byte("c")},
		{nil, pattern(4000), []byte("ab"), pattern(4000)},
		// A content that looks like frames is no frame of its own.
		{plainFrame(1, []byte("in")), plainFrame(1, plainFrame(1, nil))},
		slices.Repeat([][]byte{[]byte("same")}, 1000),
	}
	for _, l := range lists {
		var b []byte
		for _, content := range l {
			b = append(b, plainFrame(1, content)...)
		}
		allAre(t, b, l, len(b))
		for _, behind := range append(nonFrames(), []byte{1}, []byte{1, 0}, []byte{1, 0, 0}) {
			allAre(t, slices.Concat(b, behind), l, len(b))
		}
		for _, behind := range nonFrames() {
			allAre(t, slices.Concat(b, behind, b), l, len(b))
		}
	}
}

// source makes numbers that are the same in each run.
type source uint64

func (s *source) next(below int) int {
	*s = *s*6364136223846793005 + 1442695040888963407
	return int(uint64(*s) >> 33 % uint64(below))
}

func (s *source) bytes(below int) []byte {
	b := make([]byte, s.next(below))
	for i := range b {
		b[i] = byte(s.next(256))
	}
	return b
}

// plainFirst is First, said once more.
func plainFirst(b []byte) ([]byte, int, api.Errno) {
	switch {
	case len(b) == 0:
		return nil, 0, api.ErrNone
	case b[0] != 1 || len(b) < 3:
		return nil, 0, api.ErrForm
	}
	size := int(binary.BigEndian.Uint16(b[1:])) + 7
	switch {
	case size > 4007 || len(b) < size:
		return nil, 0, api.ErrForm
	case !bytes.Equal(b[:size], plainFrame(1, b[3:size-4])):
		return nil, 0, api.ErrSum
	}
	return b[3 : size-4], size, api.OK
}

func TestBytesOfAnyKind(t *testing.T) {
	s := source(1)
	seen := map[api.Errno]int{}
	for range 100000 {
		b := s.bytes(12)
		switch s.next(4) {
		case 0:
			b = append(plainFrame(1, b), s.bytes(4)...)
			b[s.next(len(b))] = byte(s.next(256))
		case 1:
			b = slices.Concat([]byte{1, 0, byte(s.next(6))}, b)
		case 2:
			b = slices.Concat(plainFrame(1, b), b)
		}
		content, size, e := plainFirst(b)
		seen[e]++
		if e == api.OK {
			firstIs(t, b, content, size)
		} else {
			firstFails(t, b, e)
		}
		var l [][]byte
		total := 0
		for e == api.OK {
			l = append(l, content)
			total += size
			content, size, e = plainFirst(b[total:])
		}
		allAre(t, b, l, total)
	}
	for _, e := range []api.Errno{api.OK, api.ErrNone, api.ErrForm, api.ErrSum} {
		if seen[e] < 1000 {
			t.Errorf("only %d of the bytes were answered by %d", seen[e], e)
		}
	}
}

// P3.3

func TestFramesAreFoundAgain(t *testing.T) {
	s := source(2)
	for range 60 {
		var b []byte
		var l [][]byte
		var ends []int
		for range s.next(8) {
			content := s.bytes(40)
			f, e := sum.Frame(content)
			if e != api.OK {
				t.Fatalf("Frame of %d bytes = %d", len(content), e)
			}
			b = append(b, f...)
			l = append(l, content)
			ends = append(ends, len(b))
		}
		for n := range len(b) + 1 {
			complete, total := 0, 0
			for complete < len(l) && ends[complete] <= n {
				total = ends[complete]
				complete++
			}
			allAre(t, b[:n], l[:complete], total)
			allAre(t, b[:n:n], l[:complete], total)
		}
	}
}

func TestGreatFramesAreFoundAgain(t *testing.T) {
	var b []byte
	l := [][]byte{pattern(4000), nil, repeated(255, 4000), pattern(1), make([]byte, 3999)}
	starts := []int{}
	for _, content := range l {
		f, _ := sum.Frame(content)
		starts = append(starts, len(b))
		b = append(b, f...)
	}
	allAre(t, b, l, len(b))
	for i, start := range starts {
		allAre(t, b[start:], l[i:], len(b)-start)
		for _, more := range []int{0, 1, 2, 3, 6} {
			allAre(t, b[:start+more], l[:i], start)
		}
	}
	allAre(t, b[:len(b)-1], l[:4], starts[4])
}

// P3.4

// turnedFails checks that nothing takes a frame that has one byte changed, wherever the frame stands.
func turnedFails(t *testing.T, turned []byte) {
	t.Helper()
	firstFails(t, turned, api.ErrSum)
	good := plainFrame(1, []byte("good"))
	firstFails(t, slices.Concat(turned, good), api.ErrSum)
	allAre(t, slices.Concat(good, turned, good), [][]byte{[]byte("good")}, len(good))
}

func TestTurnedBytes(t *testing.T) {
	for _, content := range [][]byte{nil, {0}, {255}, []byte("ab"), make([]byte, 20), repeated(255, 20), pattern(40)} {
		f, _ := sum.Frame(content)
		for i := 3; i < len(f); i++ {
			for by := 1; by < 256; by++ {
				turned := slices.Clone(f)
				turned[i] ^= byte(by)
				turnedFails(t, turned)
			}
		}
	}
}

func TestTurnedBytesOfGreatFrames(t *testing.T) {
	for _, content := range [][]byte{pattern(4000), repeated(255, 4000), make([]byte, 4000)} {
		f, _ := sum.Frame(content)
		for i := 3; i < len(f); i++ {
			was := f[i]
			for _, by := range []byte{1, 16, 128, 255} {
				f[i] = was ^ by
				firstFails(t, f, api.ErrSum)
			}
			f[i] = was
		}
		firstIs(t, f, content, 4007)
	}
}

// R4 and R6

func TestArgumentsAreNotChanged(t *testing.T) {
	content := []byte("abc")
	spare := append(content, "behind"...)
	sum.Sum(spare[:3])
	f, _ := sum.Frame(spare[:3])
	if string(spare) != "abcbehind" {
		t.Errorf("Sum or Frame changed its bytes: %q", spare)
	}
	b := slices.Concat(f, f, []byte{1, 2, 3})
	was := slices.Clone(b)
	sum.First(b)
	sum.All(b)
	if !bytes.Equal(b, was) {
		t.Errorf("First or All changed its bytes: %x", b)
	}
}

func TestNothingIsShared(t *testing.T) {
	content := []byte("abc")
	f, _ := sum.Frame(content)
	other, _ := sum.Frame(content)
	want := plainFrame(1, []byte("abc"))
	clear(content)
	clear(other)
	if !bytes.Equal(f, want) {
		t.Errorf("a result of Frame shares memory: %x", f)
	}

	b := slices.Concat(want, want)
	first, _, _ := sum.First(b)
	second, _, _ := sum.First(b)
	l, _ := sum.All(b)
	m, _ := sum.All(b)
	clear(second)
	clear(m[0])
	clear(l[1])
	if !bytes.Equal(b, slices.Concat(want, want)) {
		t.Errorf("a result shares memory with its bytes: %x", b)
	}
	clear(b)
	if string(first) != "abc" || string(l[0]) != "abc" || string(m[1]) != "abc" {
		t.Errorf("results share memory: %q, %q, %q", first, l, m)
	}
}

// TestAppendedToContents: what is appended to a content goes neither into the next one nor into the bytes.
func TestAppendedToContents(t *testing.T) {
	want := slices.Concat(plainFrame(1, []byte("abc")), plainFrame(1, nil), plainFrame(1, []byte("def")))
	b := slices.Clone(want)
	first, _, _ := sum.First(b)
	l, _ := sum.All(b)
	if len(l) != 3 {
		t.Fatalf("All found %d frames", len(l))
	}
	_ = append(first, make([]byte, 15)...)
	for _, content := range l {
		for size := range 20 {
			_ = append(content, make([]byte, size)...)
		}
	}
	if string(l[0]) != "abc" || len(l[1]) != 0 || string(l[2]) != "def" {
		t.Errorf("contents were overwritten: %q", l)
	}
	if !bytes.Equal(b, want) {
		t.Errorf("the bytes were overwritten: %x", b)
	}
}

func TestSameAnswers(t *testing.T) {
	ask := func() {
		t.Helper()
		f, e := sum.Frame([]byte("ab"))
		if e != api.OK || !bytes.Equal(f, plainFrame(1, []byte("ab"))) {
			t.Errorf("Frame = %x, %d", f, e)
		}
		firstIs(t, f, []byte("ab"), 9)
		allAre(t, append(f, f...), [][]byte{[]byte("ab"), []byte("ab")}, 18)
	}
	ask()
	sum.Frame(make([]byte, 4001))
	sum.Sum(pattern(100))
	firstFails(t, []byte{1, 0, 0, 0, 0, 0, 0}, api.ErrSum)
	allAre(t, []byte{2}, nil, 0)
	ask()
}
