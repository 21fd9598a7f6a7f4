package note_test

import (
	"bytes"
	"encoding/binary"
	"hash/adler32"
	"hash/crc32"
	"slices"
	"testing"

	"waystation/api"
	"waystation/code"
	"waystation/note"
	"waystation/sum"
)

// P17.1 of Decode, and P17.3

func encodingsOf(l []note.Note) [][]byte {
	var all [][]byte
	for _, n := range l {
		all = append(all, plainBytes(n))
	}
	return all
}

func TestNoBytes(t *testing.T) {
	decodeFails(t, nil)
	decodeFails(t, []byte{})
	for x := range 256 {
		decodeFails(t, []byte{byte(x)})
		decodeFails(t, []byte{1, byte(x)})
		decodeFails(t, []byte{1, 0, byte(x)})
	}
}

func TestEachBeginning(t *testing.T) {
	for _, b := range append(encodingsOf(validNotes()), encodingsOf(fewNotes())...) {
		for size := range b {
			if n, e := note.Decode(b[:size]); n != (note.Note{}) || e != api.ErrForm {
				t.Fatalf("Decode(%s) = %s, %d", showBytes(b[:size]), show(n), e)
			}
		}
	}
}

func TestEachEnd(t *testing.T) {
	for _, b := range encodingsOf(fewNotes()) {
		for size := range b {
			decodeFails(t, b[:size])
			decodeFails(t, b[size+1:])
		}
	}
}

// TestEachByteChanged: that of the length too, which P17.3 leaves out: no note has another length.
func TestEachByteChanged(t *testing.T) {
	for _, b := range encodingsOf(fewNotes()) {
		for i := range b {
			for x := range 256 {
				if byte(x) == b[i] {
					continue
				}
				changed := slices.Clone(b)
				changed[i] = byte(x)
				if n, e := note.Decode(changed); n != (note.Note{}) || e != api.ErrForm {
					t.Fatalf("with the byte %d changed, Decode(%s) = %s, %d", i, showBytes(changed), show(n), e)
				}
			}
		}
	}
}

// TestEachByteOfContentChanged: here the checksum goes with the change, so that some are notes.
func TestEachByteOfContentChanged(t *testing.T) {
	notes := 0
	for _, n := range fewNotes() {
		content := plainContent(n)
		for i := range content {
			for x := range 256 {
				changed := slices.Clone(content)
				changed[i] = byte(x)
				back, e := decode(t, plainFrame(changed))
				if e != api.OK {
					continue
				}
				notes++
				if back == n && byte(x) != content[i] {
					t.Fatalf("%s is the note of %x and of %x", show(n), content, changed)
				}
			}
		}
	}
	if notes < 100000 {
		t.Errorf("%d notes", notes)
	}
}

// TestPairsOfBytesOfContent: any two of those in which the kinds differ.
func TestPairsOfBytesOfContent(t *testing.T) {
	edge := []byte{0, 1, 2, 3, 4, 5, 6, 7, 8, 15, 16, 17, 31, 127, 128, 231, 232, 254, 255}
	for _, n := range fewNotes()[:10] {
		content := plainContent(n)
		for i := range content {
			for k := range i {
				for _, x := range edge {
					for _, y := range edge {
						changed := slices.Clone(content)
						changed[i], changed[k] = x, y
						decode(t, plainFrame(changed))
					}
				}
			}
		}
	}
}

func TestBytesMore(t *testing.T) {
	for _, b := range encodingsOf(fewNotes()) {
		for x := range 256 {
			decodeFails(t, append(slices.Clone(b), byte(x)))
			decodeFails(t, append([]byte{byte(x)}, b...))
		}
		for _, size := range []int{2, 3, 4, 7, 25, 256, 4007, 65536} {
			decodeFails(t, append(slices.Clone(b), make([]byte, size)...))
			decodeFails(t, append(make([]byte, size), b...))
		}
	}
}

func TestTwoEncodings(t *testing.T) {
	all := encodingsOf(fewNotes())
	for _, a := range all {
		for _, b := range all {
			decodeFails(t, slices.Concat(a, b))
			decodeFails(t, slices.Concat(a, b[:len(b)-1]))
			decodeFails(t, slices.Concat(a[1:], b))
			decodeFails(t, plainFrame(slices.Concat(a, b)))
		}
		decodeFails(t, plainFrame(a))
		decodeFails(t, slices.Concat(a, plainFrame(nil)))
		decodeFails(t, slices.Concat(plainFrame(nil), a))
	}
}

// TestNoFrame: the values alone, and with another head, or another checksum.
func TestNoFrame(t *testing.T) {
	for _, n := range fewNotes() {
		content := plainContent(n)
		decodeFails(t, content)
		for version := range 256 {
			if version != 1 {
				decodeFails(t, headed(byte(version), len(content), content))
			}
		}
		for _, length := range []int{0, 1, 17, 18, 19, len(content) - 1, len(content) + 1, len(content) + 4, len(content) + 256, 4000, 4001, 65535} {
			if length != len(content) {
				decodeFails(t, headed(1, length, content))
			}
		}
		head := []byte{1, byte(len(content) >> 8), byte(len(content))}
		most := slices.Concat(head, content)
		right := adler32.Checksum(most)
		for _, check := range []uint32{0, 1, ^uint32(0), right + 1, right - 1, ^right, right<<16 | right>>16, adler32.Checksum(content), crc32.ChecksumIEEE(most)} {
			decodeFails(t, binary.BigEndian.AppendUint32(slices.Clone(most), check))
		}
		decodeFails(t, binary.LittleEndian.AppendUint32(slices.Clone(most), right))
		decodeFails(t, most)
	}
}

// framed is a right frame of the values of any shape.
func framed(t *testing.T, shape string, l ...code.Value) []byte {
	t.Helper()
	content, e := code.Encode(shape, l)
	frame, e2 := sum.Frame(content)
	if e != api.OK || e2 != api.OK {
		t.Fatalf("the frame of %q: %d, %d", shape, e, e2)
	}
	return frame
}

// TestOtherShapes: a right frame, whose values are none, too few, too many, or of another shape.
func TestOtherShapes(t *testing.T) {
	n := func(x uint64) code.Value { return code.Value{N: x} }
	s := func(x string) code.Value { return code.Value{S: x} }
	// The vote {Vote, 3, 7, 2, 1}, and the same as some other shapes would have it.
	if _, e := decode(t, framed(t, "aabcaaaact", n(2), n(3), n(7), n(2), n(1), n(0), n(0), n(0), n(0), s(""))); e != api.OK {
		t.Fatalf("the vote: %d", e)
	}
	for _, b := range [][]byte{
		framed(t, ""),
		framed(t, "a", n(2)),
		framed(t, "t", s("")),
		framed(t, "aabca", n(2), n(3), n(7), n(2), n(1)),
		framed(t, "aabcaaaac", n(2), n(3), n(7), n(2), n(1), n(0), n(0), n(0), n(0)),
		framed(t, "aabcaaact", n(2), n(3), n(7), n(2), n(1), n(0), n(0), n(0), s("")),
		framed(t, "aabcaaaacta", n(2), n(3), n(7), n(2), n(1), n(0), n(0), n(0), n(0), s(""), n(0)),
		framed(t, "aabcaaaactt", n(2), n(3), n(7), n(2), n(1), n(0), n(0), n(0), n(0), s(""), s("")),
		framed(t, "aabcaaaactc", n(2), n(3), n(7), n(2), n(1), n(0), n(0), n(0), n(0), s(""), n(0)),
		framed(t, "babcaaaact", n(2), n(3), n(7), n(2), n(1), n(0), n(0), n(0), n(0), s("")),
		framed(t, "aaccaaaact", n(2), n(3), n(7), n(2), n(1), n(0), n(0), n(0), n(0), s("")),
		framed(t, "aabdaaaact", n(2), n(3), n(7), n(2), n(1), n(0), n(0), n(0), n(0), s("")),
		framed(t, "aabbaaaact", n(2), n(3), n(7), n(2), n(1), n(0), n(0), n(0), n(0), s("")),
		framed(t, "aabcbaaact", n(2), n(3), n(7), n(2), n(1), n(0), n(0), n(0), n(0), s("")),
		framed(t, "aabcaaaadt", n(2), n(3), n(7), n(2), n(1), n(0), n(0), n(0), n(0), s("")),
		framed(t, "aabcaaaaca", n(2), n(3), n(7), n(2), n(1), n(0), n(0), n(0), n(0), n(0)),
		framed(t, "aabcaaaacc", n(2), n(3), n(7), n(2), n(1), n(0), n(0), n(0), n(0), n(0)),
		framed(t, "acbaaaaact", n(2), n(2), n(7), n(3), n(1), n(0), n(0), n(0), n(0), s("")),
		framed(t, "taabcaaaac", s(""), n(2), n(3), n(7), n(2), n(1), n(0), n(0), n(0), n(0)),
		framed(t, "dddt", n(2), n(3), n(7), s("")),
	} {
		decodeFails(t, b)
	}
}

// TestLengthsOfContent: what is cut off, or stands behind it, in a right frame.
func TestLengthsOfContent(t *testing.T) {
	for _, n := range fewNotes() {
		content := plainContent(n)
		for size := range content {
			decodeFails(t, plainFrame(content[:size]))
			decodeFails(t, plainFrame(content[size+1:]))
		}
		for x := range 256 {
			decodeFails(t, plainFrame(append(slices.Clone(content), byte(x))))
			decodeFails(t, plainFrame(append([]byte{byte(x)}, content...)))
		}
		decodeFails(t, plainFrame(slices.Concat(content, content)))
	}
	for _, size := range []int{0, 1, 17, 18, 19, 518, 519, 2018, 2019, 3999, 4000, 4001, 65535} {
		decodeFails(t, plainFrame(make([]byte, size)))
	}
}

// TestLengthOfCargo: the one that it is said to have, and the one that it has.
func TestLengthOfCargo(t *testing.T) {
	for _, is := range []int{0, 1, 2, 255, 256, 257, 499, 500, 501, 502, 1999, 2000, 2001, 3982} {
		content := plainContent(handOf(3, msgOf(3, 1, 2, 5, bytesOf(is))))
		for _, said := range []int{0, 1, 2, 255, 256, 257, 499, 500, 501, 502, 1999, 2000, 2001, 3982, 3983, 32768, 65535} {
			content[16], content[17] = byte(said>>8), byte(said)
			_, e := decode(t, plainFrame(content))
			if (e == api.OK) != (is == said && is <= 500) {
				t.Fatalf("with %d bytes, where %d are said: %d", is, said, e)
			}
		}
	}
}

// TestNumbersOfFrames: the greatest and other numbers that only a frame may have, in each of its places.
func TestNumbersOfFrames(t *testing.T) {
	places := []struct{ at, width int }{{0, 1}, {1, 1}, {2, 2}, {4, 4}, {8, 1}, {9, 1}, {10, 1}, {11, 1}, {12, 4}, {16, 2}}
	numbers := []uint32{0, 1, 2, 3, 5, 7, 8, 255, 256, 257, 258, 999, 1000, 1024, 65535, 65536, 65537, lastEpoch, lastEpoch + 1, lastEpoch + 2, 1 << 24, 1<<24 + 1, 1<<31 - 1, 1 << 31, 1<<31 + 1, 1<<32 - 1}
	for _, n := range fewNotes() {
		for _, p := range places {
			for _, x := range numbers {
				content := plainContent(n)
				copy(content[p.at:], binary.BigEndian.AppendUint32(nil, x<<(32-8*p.width))[:p.width])
				decode(t, plainFrame(content))
			}
		}
	}
}

// TestWrongNotesInFrames: a right frame of a right shape, whose note is not valid; some are counted for each condition that is broken.
func TestWrongNotesInFrames(t *testing.T) {
	kinds := map[int]int{}
	for _, n := range wrongNotes() {
		if fits(n) {
			decodeFails(t, plainBytes(n))
			kinds[n.Kind]++
		}
	}
	for kind := range 7 {
		if kinds[kind] < 2 {
			t.Errorf("%d frames of the kind %d", kinds[kind], kind)
		}
	}
}

// source makes numbers that are the same in each run.
type source uint64

func (s *source) next(below int) int {
	*s = *s*6364136223846793005 + 1442695040888963407
	return int(uint64(*s) >> 33 % uint64(below))
}

// TestManyBytes: bytes of which some are encodings, with a few changes, and often with the checksum and the length that go with these.
func TestManyBytes(t *testing.T) {
	from := source(17)
	all := encodingsOf(fewNotes())
	notes := 0
	for range 300000 {
		b := slices.Clone(all[from.next(len(all))])
		for range from.next(4) {
			b = change(b, &from)
		}
		if len(b) >= 7 && from.next(4) > 0 {
			b = plainFrame(b[3 : len(b)-4])
		}
		if _, e := decode(t, b); e == api.OK {
			notes++
		}
	}
	if notes < 30000 || notes > 270000 {
		t.Errorf("%d notes", notes)
	}
}

func change(b []byte, from *source) []byte {
	if len(b) == 0 {
		return b
	}
	i := from.next(len(b))
	switch from.next(5) {
	case 0:
		return slices.Delete(b, i, i+1)
	case 1:
		return slices.Insert(b, i, byte(from.next(256)))
	case 2:
		b[i] ^= 1 << from.next(8)
		return b
	}
	b[i] = byte(from.next(10))
	return b
}

// TestMemory: R6, of several results that are there at one time.
func TestMemory(t *testing.T) {
	for _, n := range fewNotes() {
		want := plainBytes(n)
		var results [][]byte
		for range 5 {
			b, _ := note.Encode(n)
			results = append(results, b)
		}
		for i, b := range results {
			if !bytes.Equal(b, want) {
				t.Fatalf("Encode(%s): result %d was written over by way of another", show(n), i)
			}
			overwrite(b[:cap(b)])
		}
		given := slices.Clone(want)
		first, _ := note.Decode(given)
		overwrite(given)
		second, _ := note.Decode(want)
		if first != n || second != n {
			t.Fatalf("%s became %s and %s, when its bytes were written over", show(n), show(first), show(second))
		}
	}
}

// TestRow: R4, that what a call answers does not hang on the calls before it.
func TestRow(t *testing.T) {
	notes, wrong := fewNotes(), wrongNotes()
	for range 3 {
		for i, n := range wrong {
			isWrong(t, n)
			isRight(t, notes[i%len(notes)])
			decodeFails(t, plainBytes(notes[i%len(notes)])[1:])
			isRight(t, notes[i*7%len(notes)])
		}
	}
}
