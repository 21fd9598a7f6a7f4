package note_test

import (
	"encoding/binary"
	"fmt"
	"hash/adler32"
	"math"
	"slices"
	"strings"

	"waystation/api"
	"waystation/hand"
	"waystation/note"
)

// The limits are written as numbers, so that the tests do not go by the program's own ones.
const (
	lastTx    = 999
	lastEpoch = 1048576
	longest   = 500
)

// of is a note of any fields but a message, valid or not.
func of(kind int, mobile uint8, tx, epoch, value int) note.Note {
	return note.Note{Kind: kind, Mobile: mobile, Tx: tx, Epoch: epoch, Value: value}
}

func msgOf(kind int, from, to uint8, epoch int, cargo string) hand.Msg {
	return hand.Msg{Kind: kind, From: from, To: to, Epoch: epoch, Cargo: cargo}
}

// with is a note with a message.
func with(n note.Note, m hand.Msg) note.Note {
	n.Msg = m
	return n
}

// handOf is a note of the kind Hand.
func handOf(mobile uint8, m hand.Msg) note.Note {
	return with(of(1, mobile, 0, 0, 0), m)
}

// bytesOf is a text of so many bytes, some of which are no UTF-8.
func bytesOf(size int) string {
	return strings.Repeat("a\x00\xff\xc3b", size/5+1)[:size]
}

// signsOf is a text of so many bytes, and of about a third as many letters.
func signsOf(size int) string {
	return strings.Repeat("a", size%3) + strings.Repeat("\u20ac", size/3)
}

func showText(s string) string {
	if len(s) > 12 {
		return fmt.Sprintf("%q.. (%d)", s[:12], len(s))
	}
	return fmt.Sprintf("%q", s)
}

func show(n note.Note) string {
	m := n.Msg
	return fmt.Sprintf("{%d of %d: %d %d %d, {%d %d %d %d %s}}", n.Kind, n.Mobile, n.Tx, n.Epoch, n.Value, m.Kind, m.From, m.To, m.Epoch, showText(m.Cargo))
}

func showBytes(b []byte) string {
	if len(b) > 60 {
		return fmt.Sprintf("%x..%x (%d)", b[:40], b[len(b)-10:], len(b))
	}
	return fmt.Sprintf("%x", b)
}

// The numbers and texts that the tests are made of.

func edgeKinds() []int     { return []int{-1, 0, 1, 2, 3, 4, 5, 6} }
func edgeMobiles() []uint8 { return []uint8{0, 7, 8, 255} }
func edgeTxs() []int       { return []int{-1, 0, 1, 998, 999, 1000} }
func edgeEpochs() []int {
	return []int{-1, 0, 1, lastEpoch - 1, lastEpoch, lastEpoch + 1}
}
func edgeValues() []int { return []int{-1, 0, 1, 2, 3} }

func edgeCargoes() []string {
	return []string{"", "a", bytesOf(499), bytesOf(500), bytesOf(501), signsOf(499), signsOf(500), signsOf(501)}
}

// edgeMsgs are those of all edges, valid or not.
func edgeMsgs() []hand.Msg {
	var l []hand.Msg
	for _, kind := range []int{-1, 0, 1, 2, 3, 4, 5} {
		for _, from := range edgeMobiles() {
			for _, to := range edgeMobiles() {
				for _, epoch := range edgeEpochs() {
					for _, cargo := range edgeCargoes() {
						l = append(l, msgOf(kind, from, to, epoch, cargo))
					}
				}
			}
		}
	}
	return l
}

// smallMsgs have just one field that is not zero.
func smallMsgs() []hand.Msg {
	var l []hand.Msg
	for _, n := range []int{math.MinInt, -1, 1, 2, 4, 5, 256, 65536, lastEpoch, math.MaxInt} {
		l = append(l, msgOf(n, 0, 0, 0, ""), msgOf(0, 0, 0, n, ""))
	}
	for _, n := range []uint8{1, 7, 8, 128, 255} {
		l = append(l, msgOf(0, n, 0, 0, ""), msgOf(0, 0, n, 0, ""))
	}
	for _, cargo := range []string{"a", "\x00", bytesOf(500), bytesOf(501), bytesOf(65536)} {
		l = append(l, msgOf(0, 0, 0, 0, cargo))
	}
	return l
}

// extremes are the numbers from least to most, or the first and last of them, those beside them, and those that would be in range if they were cut short or had another sign.
func extremes(least, most int) []int {
	l := []int{math.MinInt, math.MinInt + 1, math.MaxInt - 1, math.MaxInt, math.MinInt32, math.MaxInt32, -1, 0, 1}
	for _, n := range []int{least - 1, least, least + 1, (least + most) / 2, most - 1, most, most + 1} {
		l = append(l, n, -n)
		for _, by := range []int64{1 << 7, 1 << 8, 1 << 15, 1 << 16, 1 << 20, 1 << 24, 1 << 31, 1 << 32, 1 << 40, 1 << 48, 1 << 56, 1 << 62, math.MinInt64} {
			l = append(l, int(int64(n)+by), int(int64(n)-by), int(int64(n)+255*by))
		}
	}
	slices.Sort(l)
	return slices.Compact(l)
}

// validNotes are some of each kind, with the edges of what is valid.
func validNotes() []note.Note {
	var l []note.Note
	for _, mobile := range []uint8{0, 3, 7} {
		for _, tx := range []int{0, 1, 255, 256, 258, 998, 999} {
			for _, epoch := range []int{1, 2, 255, 256, 65535, 65536, 0x0a0b0c, lastEpoch - 1, lastEpoch} {
				l = append(l, of(2, mobile, tx, epoch, 1), of(2, mobile, tx, epoch, 2), of(3, mobile, tx, epoch, 0))
			}
			l = append(l, of(4, mobile, tx, 0, 0))
			l = append(l, of(5, mobile, tx, 0, 0), of(5, mobile, tx, 0, 1), of(5, mobile, tx, 0, 2))
		}
		l = append(l, validHands(mobile)...)
	}
	return l
}

func validHands(mobile uint8) []note.Note {
	var l []note.Note
	for kind := 1; kind <= 4; kind++ {
		for _, from := range []uint8{0, 4, 7} {
			for _, to := range []uint8{0, 4, 7} {
				for _, epoch := range []int{1, 0x0a0b0c, lastEpoch} {
					for _, cargo := range []string{"", "a", "\x00", "\xff\xfe", "\u20ac", bytesOf(256), bytesOf(499), bytesOf(500), signsOf(500)} {
						l = append(l, handOf(mobile, msgOf(kind, from, to, epoch, cargo)))
					}
				}
			}
		}
	}
	return l
}

// fewNotes are one or two of each kind, short ones and long ones.
func fewNotes() []note.Note {
	return []note.Note{
		of(2, 3, 7, 2, 1), of(2, 7, lastTx, lastEpoch, 2), of(3, 0, 0, 1, 0), of(3, 7, 998, lastEpoch, 0), of(4, 5, 300, 0, 0), of(5, 0, 0, 0, 0), of(5, 6, 515, 0, 2),
		handOf(0, msgOf(1, 0, 0, 1, "")), handOf(7, msgOf(4, 7, 6, lastEpoch, "")), handOf(2, msgOf(3, 1, 5, 70000, "cargo")),
		handOf(1, msgOf(3, 6, 2, 5, bytesOf(500))),
	}
}

// wrongNotes are some that are not valid, each for one reason alone.
func wrongNotes() []note.Note {
	m := msgOf(3, 1, 2, 5, "c")
	l := []note.Note{
		of(0, 3, 7, 0, 0), of(6, 3, 7, 0, 0), of(255, 3, 7, 0, 0), of(256+4, 3, 7, 0, 0), of(0, 3, 7, 2, 1), of(6, 3, 7, 2, 1), of(0, 3, 7, 2, 0), of(6, 3, 7, 2, 0),
		of(2, 8, 7, 2, 1), of(2, 255, 7, 2, 1), of(3, 8, 7, 2, 0), of(3, 255, 7, 2, 0), of(4, 8, 7, 0, 0), of(4, 255, 7, 0, 0), of(5, 8, 7, 0, 1), of(5, 255, 7, 0, 1), handOf(8, m), handOf(255, m),
		of(2, 3, 1000, 2, 1), of(3, 3, 1000, 2, 0), of(4, 3, 1000, 0, 0), of(5, 3, 1000, 0, 1), of(2, 3, -1, 2, 1), of(3, 3, -1, 2, 0), of(4, 3, -1, 0, 0), of(5, 3, -1, 0, 1),
		of(2, 3, 65535, 2, 1), of(3, 3, 65535, 2, 0), of(4, 3, 65535, 0, 0), of(5, 3, 65535, 0, 1), of(4, 3, 65536, 0, 0), of(4, 3, 65536+7, 0, 0),
		of(2, 3, 7, 0, 1), of(2, 3, 7, -1, 1), of(2, 3, 7, lastEpoch+1, 1), of(2, 3, 7, math.MaxInt, 1), of(2, 3, 7, math.MinInt, 1),
		of(3, 3, 7, 0, 0), of(3, 3, 7, -1, 0), of(3, 3, 7, lastEpoch+1, 0), of(3, 3, 7, math.MaxInt, 0), of(3, 3, 7, math.MinInt, 0),
		of(4, 3, 7, 1, 0), of(4, 3, 7, -1, 0), of(4, 3, 7, lastEpoch, 0), of(5, 3, 7, 1, 1), of(5, 3, 7, -1, 1), of(5, 3, 7, lastEpoch, 1),
		of(2, 3, 7, 2, 0), of(2, 3, 7, 2, 3), of(2, 3, 7, 2, -1), of(2, 3, 7, 2, 255), of(2, 3, 7, 2, 257),
		of(3, 3, 7, 2, 1), of(3, 3, 7, 2, 2), of(3, 3, 7, 2, -1), of(3, 3, 7, 2, 255), of(3, 3, 7, 2, 256),
		of(4, 3, 7, 0, 1), of(4, 3, 7, 0, 2), of(4, 3, 7, 0, -1), of(4, 3, 7, 0, 255), of(4, 3, 7, 0, 256),
		of(5, 3, 7, 0, 3), of(5, 3, 7, 0, -1), of(5, 3, 7, 0, 255), of(5, 3, 7, 0, 257),
		with(of(1, 3, 1, 0, 0), m), with(of(1, 3, lastTx, 0, 0), m), with(of(1, 3, -1, 0, 0), m), with(of(1, 3, 0, 1, 0), m), with(of(1, 3, 0, 5, 0), m), with(of(1, 3, 0, -1, 0), m),
		with(of(1, 3, 0, 0, 1), m), with(of(1, 3, 0, 0, 2), m), with(of(1, 3, 0, 0, -1), m), of(1, 3, 0, 0, 0),
		handOf(3, msgOf(0, 1, 2, 5, "c")), handOf(3, msgOf(5, 1, 2, 5, "c")), handOf(3, msgOf(-1, 1, 2, 5, "c")), handOf(3, msgOf(255, 1, 2, 5, "c")), handOf(3, msgOf(257, 1, 2, 5, "c")),
		handOf(3, msgOf(3, 8, 2, 5, "c")), handOf(3, msgOf(3, 255, 2, 5, "c")), handOf(3, msgOf(3, 1, 8, 5, "c")), handOf(3, msgOf(3, 1, 255, 5, "c")),
		handOf(3, msgOf(3, 1, 2, 0, "c")), handOf(3, msgOf(3, 1, 2, -1, "c")), handOf(3, msgOf(3, 1, 2, lastEpoch+1, "c")), handOf(3, msgOf(3, 1, 2, math.MaxInt, "c")), handOf(3, msgOf(3, 1, 2, math.MinInt, "c")),
		handOf(3, msgOf(3, 1, 2, 5, bytesOf(501))), handOf(3, msgOf(3, 1, 2, 5, signsOf(501))), handOf(3, msgOf(3, 1, 2, 5, bytesOf(2000))), handOf(3, msgOf(3, 1, 2, 5, bytesOf(2001))),
		handOf(3, msgOf(3, 1, 2, 5, bytesOf(3982))), handOf(3, msgOf(3, 1, 2, 5, bytesOf(3983))), handOf(3, msgOf(3, 1, 2, 5, bytesOf(65536))), handOf(3, msgOf(3, 1, 2, 5, bytesOf(65537))),
	}
	for _, m := range smallMsgs() {
		l = append(l, with(of(2, 3, 7, 2, 1), m), with(of(3, 3, 7, 2, 0), m), with(of(4, 3, 7, 0, 0), m), with(of(5, 3, 7, 0, 1), m))
	}
	return l
}

// The chapter's words, one sentence after the other.

func valid(n note.Note) bool {
	if n.Kind != 1 && n.Kind != 2 && n.Kind != 3 && n.Kind != 4 && n.Kind != 5 {
		return false
	}
	if n.Mobile >= 8 {
		return false
	}
	if n.Kind == 1 {
		if n.Tx != 0 || n.Epoch != 0 || n.Value != 0 {
			return false
		}
		if n.Msg.Kind < 1 || n.Msg.Kind > 4 {
			return false
		}
		if n.Msg.From >= 8 || n.Msg.To >= 8 {
			return false
		}
		if n.Msg.Epoch < 1 || n.Msg.Epoch > lastEpoch {
			return false
		}
		return len(n.Msg.Cargo) <= longest
	}
	if n.Msg.Kind != 0 || n.Msg.From != 0 || n.Msg.To != 0 || n.Msg.Epoch != 0 || n.Msg.Cargo != "" {
		return false
	}
	if n.Tx < 0 || n.Tx > lastTx {
		return false
	}
	if n.Kind == 2 {
		return n.Epoch >= 1 && n.Epoch <= lastEpoch && (n.Value == 1 || n.Value == 2)
	}
	if n.Kind == 3 {
		return n.Epoch >= 1 && n.Epoch <= lastEpoch && n.Value == 0
	}
	if n.Kind == 4 {
		return n.Epoch == 0 && n.Value == 0
	}
	return n.Epoch == 0 && (n.Value == 0 || n.Value == 1 || n.Value == 2)
}

// plainContent is what stands in the frame of a note.
func plainContent(n note.Note) []byte {
	b := []byte{byte(n.Kind), n.Mobile, byte(n.Tx >> 8), byte(n.Tx)}
	b = binary.BigEndian.AppendUint32(b, uint32(n.Epoch))
	b = append(b, byte(n.Value), byte(n.Msg.Kind), n.Msg.From, n.Msg.To)
	b = binary.BigEndian.AppendUint32(b, uint32(n.Msg.Epoch))
	b = append(b, byte(len(n.Msg.Cargo)>>8), byte(len(n.Msg.Cargo)))
	return append(b, n.Msg.Cargo...)
}

// plainFrame is a frame of any content, also one that is too long.
func plainFrame(content []byte) []byte {
	return headed(1, len(content), content)
}

// headed is a frame that has another head, maybe, and a checksum that goes with it.
func headed(version byte, length int, content []byte) []byte {
	b := append([]byte{version, byte(length >> 8), byte(length)}, content...)
	return binary.BigEndian.AppendUint32(b, adler32.Checksum(b))
}

func plainBytes(n note.Note) []byte {
	return plainFrame(plainContent(n))
}

// fits tells whether each field of a note fits its letter, so that a frame may have it.
func fits(n note.Note) bool {
	short := func(x, most int) bool { return x >= 0 && x <= most }
	long := func(x int) bool { return x >= 0 && int64(x) <= math.MaxUint32 }
	return short(n.Kind, 255) && short(n.Tx, 65535) && long(n.Epoch) && short(n.Value, 255) && short(n.Msg.Kind, 255) && long(n.Msg.Epoch) && len(n.Msg.Cargo) <= 3982
}

func plainDecode(b []byte) (note.Note, api.Errno) {
	if len(b) < 25 || len(b) > 525 {
		return note.Note{}, api.ErrForm
	}
	content := b[3 : len(b)-4]
	if !slices.Equal(b, plainFrame(content)) {
		return note.Note{}, api.ErrForm
	}
	number := func(at, width int) int64 {
		var x int64
		for _, v := range content[at : at+width] {
			x = x*256 + int64(v)
		}
		return x
	}
	epoch, epochOfMsg := number(4, 4), number(12, 4)
	if epoch > lastEpoch || epochOfMsg > lastEpoch || number(16, 2) != int64(len(content)-18) {
		return note.Note{}, api.ErrForm
	}
	n := of(int(content[0]), content[1], int(number(2, 2)), int(epoch), int(content[8]))
	n.Msg = msgOf(int(content[9]), content[10], content[11], int(epochOfMsg), string(content[18:]))
	if !valid(n) {
		return note.Note{}, api.ErrForm
	}
	return n, api.OK
}
