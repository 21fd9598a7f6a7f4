package lease_test

import (
	"bytes"
	"math"
	"slices"
	"testing"

	"waystation/api"
	"waystation/code"
	"waystation/lease"
)

// last is the greatest epoch; it is written as a number, so that the tests do not go by the program's own limit.
const last = 1048576

func held(epoch int) lease.Lease {
	return lease.Lease{Epoch: epoch, State: lease.Held}
}

func gone(epoch int, to uint8) lease.Lease {
	return lease.Lease{Epoch: epoch, State: lease.Gone, To: to}
}

// of is a lease of any fields, valid or not.
func of(epoch, state int, to uint8) lease.Lease {
	return lease.Lease{Epoch: epoch, State: state, To: to}
}

// The numbers that the leases and the arguments of the tests are made of: the edges, those beside them, and some that would be in range if they were cut short.

func states() []int {
	return []int{math.MinInt, -256, -2, -1, 0, 1, 2, 3, 4, 255, 256, 257, 258, math.MaxInt}
}

func epochs() []int {
	l := []int{math.MinInt, math.MinInt + 1, -last - 1, -last, -5, -2, -1, 0, 1, 2, 3, 4, 5, 6, 255, 256, 257, 65535, 65536, 65537}
	l = append(l, last-2, last-1, last, last+1, last+2, 2*last, math.MaxInt32, math.MaxInt-1, math.MaxInt)
	for _, n := range []int64{1 << 31, 1<<32 - 1, 1 << 32, 1<<32 + 1, 1<<32 + 5, 1<<32 + last} {
		l = append(l, int(n))
	}
	return l
}

func stations() []uint8 {
	return []uint8{0, 1, 2, 6, 7, 8, 9, 15, 16, 63, 64, 127, 128, 254, 255}
}

// allLeases are those of all these numbers, valid or not.
func allLeases() []lease.Lease {
	var l []lease.Lease
	for _, state := range states() {
		for _, epoch := range epochs() {
			for _, to := range stations() {
				l = append(l, of(epoch, state, to))
			}
		}
	}
	return l
}

func validLeases() []lease.Lease {
	return slices.DeleteFunc(allLeases(), func(l lease.Lease) bool { return !valid(l) })
}

// wrongLeases are some that are not valid, most of them for one reason alone.
func wrongLeases() []lease.Lease {
	return []lease.Lease{
		of(0, -1, 0), of(0, 3, 0), of(5, -1, 0), of(5, 3, 0), of(5, 3, 7), of(5, 257, 0), of(5, math.MinInt, 0), of(5, math.MaxInt, 0),
		of(1, lease.Idle, 0), of(-1, lease.Idle, 0), of(last, lease.Idle, 0), of(math.MinInt, lease.Idle, 0), of(math.MaxInt, lease.Idle, 0),
		of(0, lease.Idle, 1), of(0, lease.Idle, 7), of(0, lease.Idle, 8), of(0, lease.Idle, 255),
		held(0), held(-1), held(last + 1), held(math.MinInt), held(math.MaxInt),
		of(5, lease.Held, 1), of(5, lease.Held, 7), of(5, lease.Held, 8), of(5, lease.Held, 255), of(last, lease.Held, 1),
		gone(0, 0), gone(0, 5), gone(-1, 5), gone(last+1, 5), gone(math.MinInt, 5), gone(math.MaxInt, 5),
		gone(5, 8), gone(5, 9), gone(5, 128), gone(5, 255), gone(1, 8), gone(last, 8), gone(last, 255),
	}
}

// The chapter's words, one sentence after the other.

func valid(l lease.Lease) bool {
	if l.State != 0 && l.State != 1 && l.State != 2 {
		return false
	}
	if l.State == 0 && l.Epoch != 0 {
		return false
	}
	if l.State != 0 && (l.Epoch < 1 || l.Epoch > last) {
		return false
	}
	if l.State == 2 {
		return l.To < 8
	}
	return l.To == 0
}

func plainTake(l lease.Lease, epoch int) (lease.Lease, api.Errno) {
	if !valid(l) {
		return l, api.ErrArg
	}
	if epoch < 1 || epoch > last {
		return l, api.ErrArg
	}
	if l.State == 1 && l.Epoch == epoch {
		return l, api.ErrHave
	}
	if epoch <= l.Epoch {
		return l, api.ErrOld
	}
	return of(epoch, 1, 0), api.OK
}

func plainGive(l lease.Lease, to uint8) (lease.Lease, api.Errno) {
	if !valid(l) {
		return l, api.ErrArg
	}
	if to >= 8 {
		return l, api.ErrArg
	}
	if l.State != 1 {
		return l, api.ErrNone
	}
	if l.Epoch == last {
		return l, api.ErrBig
	}
	return of(l.Epoch, 2, to), api.OK
}

func plainSpeaks(l lease.Lease, epoch int) bool {
	if !valid(l) || l.State != 1 {
		return false
	}
	return l.Epoch == epoch
}

// plainBytes are those of a lease, whose fields are cut short if they do not fit.
func plainBytes(l lease.Lease) []byte {
	n := uint32(l.Epoch)
	return []byte{byte(l.State), byte(n >> 24), byte(n >> 16), byte(n >> 8), byte(n), l.To}
}

func plainDecode(b []byte) (lease.Lease, api.Errno) {
	if len(b) != 6 {
		return lease.Lease{}, api.ErrForm
	}
	epoch := int64(b[1])<<24 + int64(b[2])<<16 + int64(b[3])<<8 + int64(b[4])
	if epoch > last {
		return lease.Lease{}, api.ErrForm
	}
	l := of(int(epoch), int(b[0]), b[5])
	if !valid(l) {
		return lease.Lease{}, api.ErrForm
	}
	return l, api.OK
}

// The calls, each made twice: what it answers hangs on its arguments alone.

func rightIs(t *testing.T, l lease.Lease, want bool) {
	t.Helper()
	for range 2 {
		if is := lease.Right(l); is != want {
			t.Fatalf("Right(%v) = %t, want %t", l, is, want)
		}
	}
}

func speaksIs(t *testing.T, l lease.Lease, epoch int, want bool) {
	t.Helper()
	for range 2 {
		if is := lease.Speaks(l, epoch); is != want {
			t.Fatalf("Speaks(%v, %d) = %t, want %t", l, epoch, is, want)
		}
	}
}

func takeIs(t *testing.T, l lease.Lease, epoch int, want lease.Lease, e api.Errno) {
	t.Helper()
	for range 2 {
		if got, is := lease.Take(l, epoch); got != want || is != e {
			t.Fatalf("Take(%v, %d) = %v, %d, want %v, %d", l, epoch, got, is, want, e)
		}
	}
}

func giveIs(t *testing.T, l lease.Lease, to uint8, want lease.Lease, e api.Errno) {
	t.Helper()
	for range 2 {
		if got, is := lease.Give(l, to); got != want || is != e {
			t.Fatalf("Give(%v, %d) = %v, %d, want %v, %d", l, to, got, is, want, e)
		}
	}
}

// takeFails and giveFails check an error, with which the lease comes back as it was.

func takeFails(t *testing.T, l lease.Lease, epoch int, e api.Errno) {
	t.Helper()
	takeIs(t, l, epoch, l, e)
}

func giveFails(t *testing.T, l lease.Lease, to uint8, e api.Errno) {
	t.Helper()
	giveIs(t, l, to, l, e)
}

func encodeIs(t *testing.T, l lease.Lease, want []byte, e api.Errno) {
	t.Helper()
	for range 2 {
		if b, is := lease.Encode(l); !bytes.Equal(b, want) || is != e {
			t.Fatalf("Encode(%v) = %x, %d, want %x, %d", l, b, is, want, e)
		}
	}
}

// decodeIs lends bytes with more behind them in memory, none of which may count, and none of which may be written to.
func decodeIs(t *testing.T, b []byte, want lease.Lease, e api.Errno) {
	t.Helper()
	memory := append(slices.Clone(b), 1, 2, 3, 4, 5, 6)
	was := slices.Clone(memory)
	for _, given := range [][]byte{memory[:len(b)], memory[:len(b):len(b)]} {
		if l, is := lease.Decode(given); l != want || is != e {
			t.Fatalf("Decode(%.40x), of %d bytes = %v, %d, want %v, %d", b, len(b), l, is, want, e)
		}
	}
	if !bytes.Equal(memory, was) {
		t.Fatalf("Decode(%.40x) changed what it was given", b)
	}
}

func decodeFails(t *testing.T, b []byte) {
	t.Helper()
	decodeIs(t, b, lease.Lease{}, api.ErrForm)
}

// backIs checks that a lease and these bytes are made of each other.
func backIs(t *testing.T, l lease.Lease, b string) {
	t.Helper()
	encodeIs(t, l, []byte(b), api.OK)
	decodeIs(t, []byte(b), l, api.OK)
}

func TestExample(t *testing.T) {
	l, e := lease.Take(lease.Lease{}, 3)
	if l != of(3, 1, 0) || e != api.OK {
		t.Fatalf("Take({}, 3) = %v, %d", l, e)
	}
	l, e = lease.Give(l, 5)
	if l != of(3, 2, 5) || e != api.OK {
		t.Fatalf("Give(that, 5) = %v, %d", l, e)
	}
	l, e = lease.Take(l, 3)
	if l != of(3, 2, 5) || e != api.ErrOld {
		t.Fatalf("Take(that, 3) = %v, %d", l, e)
	}
}

func TestStates(t *testing.T) {
	got := []int{lease.Idle, lease.Held, lease.Gone}
	if !slices.Equal(got, []int{0, 1, 2}) {
		t.Errorf("the states: %v", got)
	}
	// An untyped constant is of any integer type, as the chapter has it.
	small := []uint8{lease.Idle, lease.Held, lease.Gone}
	if !slices.Equal(small, []uint8{0, 1, 2}) {
		t.Errorf("the states as bytes: %v", small)
	}
}

// TestNumbersOfTheTests: the lists hold valid leases of each state, and others.
func TestNumbersOfTheTests(t *testing.T) {
	var n [3]int
	for _, l := range validLeases() {
		n[l.State]++
	}
	// 15 epochs are in range: 1 to 6, 255 to 257, 65535 to 65537, and the last three; 5 of the stations are.
	if n != [3]int{1, 15, 75} {
		t.Errorf("valid leases by their states: %v", n)
	}
	for _, l := range wrongLeases() {
		if valid(l) {
			t.Errorf("%v is valid", l)
		}
	}
}

// P11.1

func TestRightOfIdle(t *testing.T) {
	rightIs(t, lease.Lease{}, true)
	for _, epoch := range []int{math.MinInt, -1, 1, 2, last, last + 1, math.MaxInt} {
		rightIs(t, of(epoch, lease.Idle, 0), false)
		rightIs(t, of(epoch, lease.Idle, 7), false)
	}
	for _, to := range []uint8{1, 7, 8, 255} {
		rightIs(t, of(0, lease.Idle, to), false)
	}
}

func TestRightOfHeld(t *testing.T) {
	for _, epoch := range []int{1, 2, 500000, last - 1, last} {
		rightIs(t, held(epoch), true)
		for _, to := range []uint8{1, 7, 8, 255} {
			rightIs(t, of(epoch, lease.Held, to), false)
		}
	}
	for _, epoch := range []int{math.MinInt, -last, -1, 0, last + 1, math.MaxInt} {
		rightIs(t, held(epoch), false)
	}
}

func TestRightOfGone(t *testing.T) {
	for _, epoch := range []int{1, 2, 500000, last - 1, last} {
		for _, to := range []uint8{0, 1, 6, 7} {
			rightIs(t, gone(epoch, to), true)
		}
		for _, to := range []uint8{8, 9, 16, 128, 255} {
			rightIs(t, gone(epoch, to), false)
		}
	}
	for _, epoch := range []int{math.MinInt, -last, -1, 0, last + 1, math.MaxInt} {
		rightIs(t, gone(epoch, 0), false)
		rightIs(t, gone(epoch, 7), false)
	}
}

func TestRightOfOtherStates(t *testing.T) {
	for _, state := range []int{math.MinInt, -255, -1, 3, 4, 256, 257, 258, math.MaxInt} {
		for _, epoch := range []int{0, 1, 5, last} {
			rightIs(t, of(epoch, state, 0), false)
			rightIs(t, of(epoch, state, 7), false)
		}
	}
}

func TestRightOfWrongLeases(t *testing.T) {
	for _, l := range wrongLeases() {
		rightIs(t, l, false)
	}
}

func TestRightOfAll(t *testing.T) {
	for _, l := range allLeases() {
		rightIs(t, l, valid(l))
	}
}

func TestSpeaks(t *testing.T) {
	for _, epoch := range []int{1, 2, 5, last - 1, last} {
		speaksIs(t, held(epoch), epoch, true)
		for _, other := range []int{epoch - 1, epoch + 1, epoch + 256, -epoch, 0, math.MinInt, math.MaxInt} {
			speaksIs(t, held(epoch), other, false)
		}
		for _, to := range []uint8{0, 7} {
			for _, other := range []int{epoch - 1, epoch, epoch + 1, 0} {
				speaksIs(t, gone(epoch, to), other, false)
			}
		}
	}
	for _, epoch := range epochs() {
		speaksIs(t, lease.Lease{}, epoch, false)
	}
}

func TestSpeaksOfWrongLeases(t *testing.T) {
	for _, l := range wrongLeases() {
		for _, epoch := range append(epochs(), l.Epoch) {
			speaksIs(t, l, epoch, false)
		}
	}
}

func TestSpeaksOfAll(t *testing.T) {
	for _, l := range allLeases() {
		for _, epoch := range epochs() {
			speaksIs(t, l, epoch, plainSpeaks(l, epoch))
		}
	}
}

// P11.2

func TestTakeOfIdle(t *testing.T) {
	for _, epoch := range []int{1, 2, 5, last - 1, last} {
		takeIs(t, lease.Lease{}, epoch, held(epoch), api.OK)
	}
	for _, epoch := range []int{math.MinInt, -1, 0, last + 1, math.MaxInt} {
		takeFails(t, lease.Lease{}, epoch, api.ErrArg)
	}
}

func TestTakeOfHeld(t *testing.T) {
	for _, epoch := range []int{6, 7, 1000, last - 1, last} {
		takeIs(t, held(5), epoch, held(epoch), api.OK)
	}
	takeFails(t, held(5), 5, api.ErrHave)
	for _, epoch := range []int{1, 2, 4} {
		takeFails(t, held(5), epoch, api.ErrOld)
	}
	for _, epoch := range []int{math.MinInt, -5, -1, 0, last + 1, math.MaxInt} {
		takeFails(t, held(5), epoch, api.ErrArg)
	}
	takeFails(t, held(1), 1, api.ErrHave)
	takeIs(t, held(1), 2, held(2), api.OK)
	takeIs(t, held(last-1), last, held(last), api.OK)
	takeFails(t, held(last), last, api.ErrHave)
	takeFails(t, held(last), last-1, api.ErrOld)
	takeFails(t, held(last), 1, api.ErrOld)
	takeFails(t, held(last), last+1, api.ErrArg)
}

func TestTakeOfGone(t *testing.T) {
	for _, to := range []uint8{0, 3, 7} {
		for _, epoch := range []int{6, 7, 1000, last - 1, last} {
			takeIs(t, gone(5, to), epoch, held(epoch), api.OK)
		}
		for _, epoch := range []int{1, 2, 4, 5} {
			takeFails(t, gone(5, to), epoch, api.ErrOld)
		}
		for _, epoch := range []int{math.MinInt, -5, -1, 0, last + 1, math.MaxInt} {
			takeFails(t, gone(5, to), epoch, api.ErrArg)
		}
		takeFails(t, gone(1, to), 1, api.ErrOld)
		takeIs(t, gone(1, to), 2, held(2), api.OK)
		takeIs(t, gone(last-1, to), last, held(last), api.OK)
		takeFails(t, gone(last, to), last, api.ErrOld)
		takeFails(t, gone(last, to), 1, api.ErrOld)
		takeFails(t, gone(last, to), last+1, api.ErrArg)
	}
}

func TestTakeOfWrongLeases(t *testing.T) {
	for _, l := range wrongLeases() {
		for _, epoch := range append(epochs(), l.Epoch) {
			takeFails(t, l, epoch, api.ErrArg)
		}
	}
}

func TestTakeOfAll(t *testing.T) {
	for _, l := range allLeases() {
		for _, epoch := range epochs() {
			want, e := plainTake(l, epoch)
			takeIs(t, l, epoch, want, e)
		}
	}
}

func TestGive(t *testing.T) {
	for _, epoch := range []int{1, 2, 5, last - 1} {
		for _, to := range []uint8{0, 1, 6, 7} {
			giveIs(t, held(epoch), to, gone(epoch, to), api.OK)
		}
		for _, to := range []uint8{8, 9, 16, 128, 255} {
			giveFails(t, held(epoch), to, api.ErrArg)
		}
	}
}

func TestGiveOfNone(t *testing.T) {
	for _, to := range []uint8{0, 1, 7} {
		giveFails(t, lease.Lease{}, to, api.ErrNone)
		for _, epoch := range []int{1, 5, last - 1, last} {
			giveFails(t, gone(epoch, 0), to, api.ErrNone)
			giveFails(t, gone(epoch, 7), to, api.ErrNone)
		}
	}
}

func TestGiveInTheLastEpoch(t *testing.T) {
	for _, to := range []uint8{0, 1, 7} {
		giveFails(t, held(last), to, api.ErrBig)
	}
}

func TestGiveOfWrongLeases(t *testing.T) {
	for _, l := range wrongLeases() {
		for to := range 256 {
			giveFails(t, l, uint8(to), api.ErrArg)
		}
	}
}

func TestGiveOfAll(t *testing.T) {
	for _, l := range allLeases() {
		for _, to := range stations() {
			want, e := plainGive(l, to)
			giveIs(t, l, to, want, e)
		}
	}
	for _, l := range validLeases() {
		for to := range 256 {
			want, e := plainGive(l, uint8(to))
			giveIs(t, l, uint8(to), want, e)
		}
	}
}

// TestFirstError: R2.
func TestFirstError(t *testing.T) {
	// ErrArg comes ahead of ErrHave and ErrOld.
	takeFails(t, of(5, lease.Held, 1), 5, api.ErrArg)
	takeFails(t, of(5, lease.Held, 1), 4, api.ErrArg)
	takeFails(t, held(0), 0, api.ErrArg)
	takeFails(t, held(-1), -1, api.ErrArg)
	takeFails(t, held(last+1), last+1, api.ErrArg)
	takeFails(t, held(last+1), 5, api.ErrArg)
	takeFails(t, gone(5, 8), 5, api.ErrArg)
	takeFails(t, gone(5, 7), 0, api.ErrArg)
	takeFails(t, held(5), 0, api.ErrArg)
	takeFails(t, lease.Lease{}, 0, api.ErrArg)
	// ErrHave comes ahead of ErrOld.
	takeFails(t, held(5), 5, api.ErrHave)
	takeFails(t, held(last), last, api.ErrHave)
	// ErrArg comes ahead of ErrNone and ErrBig.
	giveFails(t, lease.Lease{}, 8, api.ErrArg)
	giveFails(t, gone(5, 7), 8, api.ErrArg)
	giveFails(t, gone(last, 7), 255, api.ErrArg)
	giveFails(t, held(last), 8, api.ErrArg)
	giveFails(t, held(last), 255, api.ErrArg)
	giveFails(t, of(1, lease.Idle, 0), 7, api.ErrArg)
	giveFails(t, gone(5, 8), 7, api.ErrArg)
	giveFails(t, of(last, lease.Held, 1), 7, api.ErrArg)
	giveFails(t, held(last+1), 7, api.ErrArg)
	// ErrNone comes ahead of ErrBig.
	giveFails(t, gone(last, 0), 0, api.ErrNone)
	giveFails(t, gone(last, 7), 7, api.ErrNone)
}

// P11.3

func TestEncode(t *testing.T) {
	backIs(t, lease.Lease{}, "\x00\x00\x00\x00\x00\x00")
	backIs(t, held(1), "\x01\x00\x00\x00\x01\x00")
	backIs(t, held(258), "\x01\x00\x00\x01\x02\x00")
	backIs(t, held(0x0a0b0c), "\x01\x00\x0a\x0b\x0c\x00")
	backIs(t, held(last-1), "\x01\x00\x0f\xff\xff\x00")
	backIs(t, held(last), "\x01\x00\x10\x00\x00\x00")
	backIs(t, gone(1, 0), "\x02\x00\x00\x00\x01\x00")
	backIs(t, gone(1, 7), "\x02\x00\x00\x00\x01\x07")
	backIs(t, gone(0x0a0b0c, 5), "\x02\x00\x0a\x0b\x0c\x05")
	backIs(t, gone(last, 0), "\x02\x00\x10\x00\x00\x00")
	backIs(t, gone(last, 7), "\x02\x00\x10\x00\x00\x07")
}

// TestShape: the bytes are those of layer 2.
func TestShape(t *testing.T) {
	for _, l := range validLeases() {
		b, e := code.Encode("aca", []code.Value{{N: uint64(l.State)}, {N: uint64(l.Epoch)}, {N: uint64(l.To)}})
		if e != api.OK {
			t.Fatalf("code.Encode of %v: %d", l, e)
		}
		backIs(t, l, string(b))
	}
}

func TestEncodeOfWrongLeases(t *testing.T) {
	for _, l := range wrongLeases() {
		encodeIs(t, l, nil, api.ErrArg)
	}
}

func TestEncodeOfAll(t *testing.T) {
	for _, l := range allLeases() {
		if valid(l) {
			backIs(t, l, string(plainBytes(l)))
			continue
		}
		encodeIs(t, l, nil, api.ErrArg)
	}
}

func TestEachBeginning(t *testing.T) {
	for _, l := range validLeases() {
		b, _ := lease.Encode(l)
		for size := range b {
			decodeFails(t, b[:size])
		}
		for size := 1; size <= len(b); size++ {
			decodeFails(t, b[size:])
		}
	}
	decodeFails(t, nil)
	decodeFails(t, []byte{})
}

func TestBytesMore(t *testing.T) {
	for _, l := range validLeases() {
		b, _ := lease.Encode(l)
		for more := range 256 {
			decodeFails(t, append(slices.Clone(b), byte(more)))
			decodeFails(t, append([]byte{byte(more)}, b...))
		}
		decodeFails(t, append(slices.Clone(b), b...))
	}
	for _, size := range []int{7, 8, 12, 256, 262, 3999, 4000, 4001, 65542, 100000} {
		decodeFails(t, make([]byte, size))
	}
}

// TestBytesOfWrongLeases: such bytes are those of the shape, but of no valid lease.
func TestBytesOfWrongLeases(t *testing.T) {
	for _, l := range wrongLeases() {
		b, e := code.Encode("aca", []code.Value{{N: uint64(l.State)}, {N: uint64(l.Epoch)}, {N: uint64(l.To)}})
		if e != api.OK {
			continue // a field that does not fit its letter
		}
		decodeFails(t, b)
	}
	for _, b := range []string{
		"\x03\x00\x00\x00\x00\x00", "\x03\x00\x00\x00\x05\x00", "\x03\x00\x00\x00\x05\x07", "\xff\x00\x00\x00\x05\x00",
		"\x00\x00\x00\x00\x01\x00", "\x00\x01\x00\x00\x00\x00", "\x00\xff\xff\xff\xff\x00", "\x00\x00\x00\x00\x00\x01", "\x00\x00\x00\x00\x00\xff",
		"\x01\x00\x00\x00\x00\x00", "\x01\x00\x10\x00\x01\x00", "\x01\x01\x00\x00\x01\x00", "\x01\x80\x00\x00\x01\x00", "\x01\xff\xff\xff\xff\x00",
		"\x01\x00\x00\x00\x05\x01", "\x01\x00\x00\x00\x05\x07", "\x01\x00\x00\x00\x05\x08", "\x01\x00\x00\x00\x05\xff",
		"\x02\x00\x00\x00\x00\x00", "\x02\x00\x00\x00\x00\x07", "\x02\x00\x10\x00\x01\x00", "\x02\xff\xff\xff\xff\x07",
		"\x02\x00\x00\x00\x05\x08", "\x02\x00\x00\x00\x05\xff", "\x02\x00\x10\x00\x00\x08",
	} {
		decodeFails(t, []byte(b))
	}
}

func TestEachByteChanged(t *testing.T) {
	for _, l := range validLeases() {
		b, _ := lease.Encode(l)
		for i := range b {
			for x := range 256 {
				changed := slices.Clone(b)
				changed[i] = byte(x)
				want, e := plainDecode(changed)
				decodeIs(t, changed, want, e)
				if e == api.OK && want == l && byte(x) != b[i] {
					t.Fatalf("%v is the lease of %x and of %x", l, b, changed)
				}
			}
		}
	}
}

// TestDecodeOfEachStateAndStation: with these epochs, among them some that would be in range if they were cut short.
func TestDecodeOfEachStateAndStation(t *testing.T) {
	for _, epoch := range []uint32{0, 1, 5, last, last + 1, 1 << 24, 1<<24 + 1, 1<<31 + 1, 1<<32 - 1} {
		for state := range 256 {
			for to := range 256 {
				b := []byte{byte(state), byte(epoch >> 24), byte(epoch >> 16), byte(epoch >> 8), byte(epoch), byte(to)}
				want, e := plainDecode(b)
				if l, is := lease.Decode(b); l != want || is != e {
					t.Fatalf("Decode(%x) = %v, %d, want %v, %d", b, l, is, want, e)
				}
			}
		}
	}
}

// TestBack: Decode of Encode is the lease, and Encode of Decode the bytes, in every epoch.
func TestBack(t *testing.T) {
	for epoch := 1; epoch <= last; epoch++ {
		for _, l := range []lease.Lease{held(epoch), gone(epoch, uint8(epoch%8))} {
			b, e := lease.Encode(l)
			if e != api.OK || !bytes.Equal(b, plainBytes(l)) {
				t.Fatalf("Encode(%v) = %x, %d", l, b, e)
			}
			back, e := lease.Decode(b)
			if e != api.OK || back != l {
				t.Fatalf("Decode(%x) = %v, %d", b, back, e)
			}
		}
	}
}

// TestMemory: R6.
func TestMemory(t *testing.T) {
	for _, l := range validLeases() {
		want := plainBytes(l)
		var results [][]byte
		for range 5 {
			b, _ := lease.Encode(l)
			results = append(results, b)
		}
		for i, b := range results {
			if !bytes.Equal(b, want) {
				t.Fatalf("Encode(%v): result %d was written over by way of another", l, i)
			}
			memory := b[:cap(b)]
			for k := range memory {
				memory[k] = 0xee
			}
		}
		encodeIs(t, l, want, api.OK)
	}
}

// TestMemoryOfDecode: R6.
func TestMemoryOfDecode(t *testing.T) {
	for _, l := range validLeases() {
		b := plainBytes(l)
		back, _ := lease.Decode(b)
		for i := range b {
			b[i] = 0xee
		}
		if back != l {
			t.Fatalf("%v became %v, when its bytes were written over", l, back)
		}
		decodeIs(t, plainBytes(l), l, api.OK)
	}
}
