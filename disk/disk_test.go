package disk_test

import (
	"bytes"
	"encoding/binary"
	"hash/adler32"
	"math"
	"slices"
	"testing"

	"waystation/api"
	"waystation/disk"
)

const maxRoom = 1 << 20

// plainFrame makes the frame of a record as the chapter of layer 3 says it.
func plainFrame(rec []byte) []byte {
	f := binary.BigEndian.AppendUint16([]byte{1}, uint16(len(rec)))
	f = append(f, rec...)
	return binary.BigEndian.AppendUint32(f, adler32.Checksum(f))
}

func plainFrames(recs ...[]byte) []byte {
	var b []byte
	for _, rec := range recs {
		b = append(b, plainFrame(rec)...)
	}
	return b
}

// pattern is bytes that differ from place to place.
func pattern(size int) []byte {
	b := make([]byte, size)
	for i := range b {
		b[i] = byte(i*7 + i>>8)
	}
	return b
}

func texts(l ...string) [][]byte {
	var recs [][]byte
	for _, s := range l {
		recs = append(recs, []byte(s))
	}
	return recs
}

func copyOf(d disk.Disk) disk.Disk {
	d.Bytes = slices.Clone(d.Bytes)
	return d
}

func diskIs(t *testing.T, what string, got disk.Disk, b []byte, safe, room int) {
	t.Helper()
	if !bytes.Equal(got.Bytes, b) || got.Safe != safe || got.Room != room {
		t.Errorf("%s: %.40x (%d bytes), Safe %d, Room %d, want %.40x (%d bytes), Safe %d, Room %d",
			what, got.Bytes, len(got.Bytes), got.Safe, got.Room, b, len(b), safe, room)
	}
}

func recordsAre(t *testing.T, d disk.Disk, recs [][]byte, size int) {
	t.Helper()
	got, n := disk.Records(d)
	if n != size || !slices.EqualFunc(got, recs, bytes.Equal) {
		t.Errorf("Records of %.40x (%d bytes) = %.40x, %d, want %.40x, %d", d.Bytes, len(d.Bytes), got, n, recs, size)
	}
}

// appended is the disk with records more, which must fit.
func appended(t *testing.T, d disk.Disk, recs ...[]byte) disk.Disk {
	t.Helper()
	for _, rec := range recs {
		next, e := disk.Append(d, rec)
		if e != api.OK {
			t.Fatalf("Append of %d bytes to %d of %d = %d, want OK", len(rec), len(d.Bytes), d.Room, e)
		}
		diskIs(t, "Append", next, slices.Concat(d.Bytes, plainFrame(rec)), d.Safe, d.Room)
		d = next
	}
	return d
}

func appendFails(t *testing.T, d disk.Disk, rec []byte, want api.Errno) {
	t.Helper()
	was := copyOf(d)
	got, e := disk.Append(d, rec)
	if e != want {
		t.Errorf("Append of %d bytes to %d of %d = %d, want %d", len(rec), len(d.Bytes), d.Room, e, want)
	}
	diskIs(t, "what Append returned with an error", got, was.Bytes, was.Safe, was.Room)
	diskIs(t, "the argument of Append", d, was.Bytes, was.Safe, was.Room)
}

func renewed(t *testing.T, d disk.Disk, recs [][]byte) disk.Disk {
	t.Helper()
	got, e := disk.Renew(d, recs)
	if e != api.OK {
		t.Fatalf("Renew with %d records, Room %d = %d, want OK", len(recs), d.Room, e)
	}
	want := plainFrames(recs...)
	diskIs(t, "Renew", got, want, len(want), d.Room)
	return got
}

func renewFails(t *testing.T, d disk.Disk, recs [][]byte, want api.Errno) {
	t.Helper()
	was := copyOf(d)
	got, e := disk.Renew(d, recs)
	if e != want {
		t.Errorf("Renew with %d records, Room %d = %d, want %d", len(recs), d.Room, e, want)
	}
	diskIs(t, "what Renew returned with an error", got, was.Bytes, was.Safe, was.Room)
	diskIs(t, "the argument of Renew", d, was.Bytes, was.Safe, was.Room)
}

func TestExample(t *testing.T) {
	d := appended(t, disk.Sync(appended(t, disk.Disk{Room: 100}, []byte("a"))), []byte("b"))
	c := disk.Crash(d, 3)
	diskIs(t, "Crash(3)", c, slices.Concat(plainFrame([]byte("a")), plainFrame([]byte("b"))[:3]), 11, 100)
	recordsAre(t, c, texts("a"), 8)
	diskIs(t, "Repair", disk.Repair(c), plainFrame([]byte("a")), 8, 100)
}

// P4.1

func TestAppend(t *testing.T) {
	d := appended(t, disk.Disk{Room: maxRoom}, texts("a", "", "bc")...)
	diskIs(t, "three records", d, plainFrames(texts("a", "", "bc")...), 0, maxRoom)
	recordsAre(t, d, texts("a", "", "bc"), len(d.Bytes))
	d = appended(t, disk.Sync(d), []byte("def"))
	diskIs(t, "a fourth", d, plainFrames(texts("a", "", "bc", "def")...), 24, maxRoom)
	appended(t, disk.Disk{Room: 7}, nil)
}

func TestAppendBehindWhatIsNoFrame(t *testing.T) {
	for _, b := range [][]byte{{0}, {1, 0}, {1, 255, 255}, pattern(50), plainFrame([]byte("xyz"))[:6]} {
		for safe := range len(b) + 1 {
			appended(t, disk.Disk{Bytes: b, Safe: safe, Room: 100}, []byte("a"))
		}
	}
}

func TestSizesOfRecords(t *testing.T) {
	for _, size := range []int{0, 1, 255, 256, 3999, 4000} {
		d := appended(t, disk.Disk{Room: maxRoom}, pattern(size))
		recordsAre(t, d, [][]byte{pattern(size)}, size+7)
	}
	for _, size := range []int{4001, 4002, 65535, 65536, 65537, 69536, maxRoom, maxRoom + 1} {
		appendFails(t, disk.Disk{Room: maxRoom}, pattern(size), api.ErrBig)
		appendFails(t, disk.Disk{Bytes: pattern(20), Safe: 5, Room: maxRoom}, pattern(size), api.ErrBig)
	}
}

func TestRoomForOneMoreFrame(t *testing.T) {
	for _, size := range []int{0, 1, 300, 4000} {
		for _, held := range []int{0, 1, 27, 5000} {
			exact := held + size + 7
			d := disk.Disk{Bytes: pattern(held), Safe: held / 2, Room: exact}
			appendFails(t, appended(t, d, pattern(size)), nil, api.ErrFull)
			d.Room = exact + 1
			appended(t, d, pattern(size))
			d.Room = exact - 1
			appendFails(t, d, pattern(size), api.ErrFull)
			d.Room = held
			appendFails(t, d, pattern(size), api.ErrFull)
		}
	}
	appendFails(t, disk.Disk{}, nil, api.ErrFull)
	appendFails(t, disk.Disk{}, []byte("a"), api.ErrFull)
	appendFails(t, disk.Disk{Room: 6}, nil, api.ErrFull)
}

func TestAppendUpToTheGreatestRoom(t *testing.T) {
	d := disk.Disk{Bytes: pattern(maxRoom - 4007), Safe: 3, Room: maxRoom}
	d = appended(t, d, pattern(4000))
	appendFails(t, d, nil, api.ErrFull)
	appendFails(t, disk.Disk{Bytes: pattern(maxRoom - 4006), Room: maxRoom}, pattern(4000), api.ErrFull)
}

// TestAppendBigToFull: both errors apply, and ErrBig is named first.
func TestAppendBigToFull(t *testing.T) {
	for _, d := range []disk.Disk{{}, {Room: 10}, {Bytes: pattern(10), Safe: 10, Room: 10}, {Bytes: pattern(maxRoom), Room: maxRoom}} {
		appendFails(t, d, pattern(4001), api.ErrBig)
		appendFails(t, d, pattern(4000), api.ErrFull)
	}
}

// P4.2

func TestSync(t *testing.T) {
	for _, size := range []int{0, 1, 8, 100} {
		for safe := range size + 1 {
			d := disk.Disk{Bytes: pattern(size), Safe: safe, Room: 100}
			s := disk.Sync(d)
			diskIs(t, "Sync", s, pattern(size), size, 100)
			diskIs(t, "Sync twice", disk.Sync(s), pattern(size), size, 100)
		}
	}
	diskIs(t, "Sync of nothing", disk.Sync(disk.Disk{}), nil, 0, 0)
}

func TestCrashByKeep(t *testing.T) {
	for _, loose := range []int{0, 1, 2, 9, 255, 256, 300} {
		for _, safe := range []int{0, 1, 8, 300} {
			d := disk.Disk{Bytes: pattern(safe + loose), Safe: safe, Room: 700}
			for _, keep := range []int{0, 1, 2, loose - 1, loose, loose + 1, loose + 2, 2*loose + 1, 2*loose + 2, 255, 256, 65534, 65535} {
				if keep < 0 {
					continue
				}
				stays := safe + keep%(loose+1)
				diskIs(t, "Crash", disk.Crash(d, uint16(keep)), pattern(safe + loose)[:stays], stays, 700)
			}
		}
	}
}

// TestCrashOfWhatIsDurable: no keep takes anything away, and a second Crash does nothing.
func TestCrashOfWhatIsDurable(t *testing.T) {
	d := disk.Sync(appended(t, disk.Disk{Room: 50}, texts("a", "bc", "def")...))
	for keep := range 1 << 16 {
		c := disk.Crash(d, uint16(keep))
		if !bytes.Equal(c.Bytes, d.Bytes) || c.Safe != 27 || c.Room != 50 {
			t.Fatalf("Crash(%d) of a synced disk: %d bytes, Safe %d, Room %d", keep, len(c.Bytes), c.Safe, c.Room)
		}
	}
	loose := disk.Disk{Bytes: pattern(20), Safe: 5, Room: 20}
	for keep := range uint16(40) {
		c := disk.Crash(loose, keep)
		diskIs(t, "Crash after Crash", disk.Crash(c, 7), c.Bytes, c.Safe, 20)
	}
	diskIs(t, "Crash of nothing", disk.Crash(disk.Disk{}, 65535), nil, 0, 0)
}

// TestCrashOfManyBytes: the number of bytes that are not durable is greater than any keep, or has more bits.
func TestCrashOfManyBytes(t *testing.T) {
	for _, loose := range []int{65533, 65534, 65535, 65536, 65537, 1 << 17, maxRoom - 10} {
		d := disk.Disk{Bytes: pattern(10 + loose), Safe: 10, Room: maxRoom}
		for _, keep := range []uint16{0, 1, 65533, 65534, 65535} {
			stays := 10 + int(keep)%(loose+1)
			diskIs(t, "Crash", disk.Crash(d, keep), d.Bytes[:stays], stays, maxRoom)
		}
	}
}

// P4.3

// nonFrames are bytes behind which no record is found, not even if a frame stands there.
func nonFrames() [][]byte {
	broken := plainFrame([]byte("xyz"))
	broken[4] ^= 1
	other := plainFrame([]byte("xyz"))
	other[0] = 2
	return [][]byte{{0}, {2}, {255, 1}, {1, 255, 255}, {1, 0, 0, 0, 6, 0, 3}, plainFrame(pattern(4001)), broken, other}
}

func TestRecords(t *testing.T) {
	recordsAre(t, disk.Disk{}, nil, 0)
	recordsAre(t, disk.Disk{Room: 100}, nil, 0)
	recordsAre(t, disk.Disk{Bytes: []byte{}, Room: 100}, nil, 0)
	for _, recs := range [][][]byte{
		texts("a"),
		texts(""),
		texts("a", "", "bc", "", "def"),
		{pattern(4000), nil, pattern(3999)},
		// A record that holds frames is one record.
		{plainFrames(texts("in", "side")...)},
		slices.Repeat(texts("same"), 500),
	} {
		whole := plainFrames(recs...)
		for _, safe := range []int{0, 1, len(whole)} {
			recordsAre(t, disk.Disk{Bytes: whole, Safe: safe, Room: maxRoom}, recs, len(whole))
		}
		last := plainFrame([]byte("last"))
		for n := range last {
			recordsAre(t, disk.Disk{Bytes: slices.Concat(whole, last[:n]), Room: maxRoom}, recs, len(whole))
		}
		for _, b := range nonFrames() {
			recordsAre(t, disk.Disk{Bytes: b, Room: maxRoom}, nil, 0)
			recordsAre(t, disk.Disk{Bytes: slices.Concat(b, whole), Room: maxRoom}, nil, 0)
			recordsAre(t, disk.Disk{Bytes: slices.Concat(whole, b), Room: maxRoom}, recs, len(whole))
			recordsAre(t, disk.Disk{Bytes: slices.Concat(whole, b, last), Room: maxRoom}, recs, len(whole))
		}
	}
}

func TestRecordsOfAFullDisk(t *testing.T) {
	d := disk.Disk{Room: maxRoom}
	recs := slices.Repeat([][]byte{pattern(4000)}, maxRoom/4007)
	d = renewed(t, d, recs)
	last := pattern(maxRoom - len(d.Bytes) - 7)
	d = appended(t, d, last)
	recordsAre(t, d, append(recs, last), maxRoom)
}

func TestRepair(t *testing.T) {
	whole := plainFrames(texts("a", "", "bcd")...)
	behinds := append(nonFrames(), nil, []byte{1}, []byte{1, 0}, plainFrame([]byte("last"))[:10])
	for _, behind := range behinds {
		b := slices.Concat(whole, behind)
		for safe := range len(b) + 1 {
			d := disk.Repair(disk.Disk{Bytes: b, Safe: safe, Room: 5000})
			// Safe stays where it is below the end of the records, and is that end otherwise.
			diskIs(t, "Repair", d, whole, min(safe, len(whole)), 5000)
			diskIs(t, "Repair twice", disk.Repair(d), whole, d.Safe, 5000)
			recordsAre(t, d, texts("a", "", "bcd"), len(whole))
		}
		if behind != nil {
			diskIs(t, "Repair of what is no frame", disk.Repair(disk.Disk{Bytes: behind, Safe: 1, Room: 5000}), nil, 0, 5000)
		}
	}
	diskIs(t, "Repair of nothing", disk.Repair(disk.Disk{Room: 9}), nil, 0, 9)
}

func TestAppendAfterRepair(t *testing.T) {
	d := appended(t, disk.Sync(appended(t, disk.Disk{Room: 100}, []byte("a"))), []byte("b"))
	d = appended(t, disk.Repair(disk.Crash(d, 7)), []byte("c"))
	recordsAre(t, d, texts("a", "c"), 16)
}

func TestRenew(t *testing.T) {
	olds := []disk.Disk{
		{Room: maxRoom},
		{Bytes: plainFrames(texts("a", "b")...), Safe: 8, Room: maxRoom},
		{Bytes: pattern(5000), Room: maxRoom},
		{Bytes: pattern(maxRoom), Safe: maxRoom, Room: maxRoom},
	}
	for _, old := range olds {
		for _, recs := range [][][]byte{nil, {}, texts(""), texts("x", "y"), {pattern(4000), nil, pattern(4000)}, slices.Repeat(texts("same"), 500)} {
			d := renewed(t, old, recs)
			recordsAre(t, d, recs, len(d.Bytes))
			// All of it is durable at once.
			for _, keep := range []uint16{0, 1, 8, 65535} {
				recordsAre(t, disk.Crash(d, keep), recs, len(d.Bytes))
			}
		}
	}
	diskIs(t, "Renew with nothing", renewed(t, disk.Disk{}, nil), nil, 0, 0)
	diskIs(t, "Renew with nothing", renewed(t, disk.Disk{Bytes: pattern(9), Safe: 3, Room: 9}, nil), nil, 0, 9)
}

func TestRenewThatJustFits(t *testing.T) {
	for _, recs := range [][][]byte{texts(""), texts("x"), texts("x", "", "yz"), {pattern(4000)}, {nil, pattern(4000), pattern(4000)}} {
		size := len(plainFrames(recs...))
		for _, held := range []int{0, 1, 6} {
			old := disk.Disk{Bytes: pattern(held), Safe: held / 2, Room: size}
			renewed(t, old, recs)
			old.Room = size + 1
			renewed(t, old, recs)
			old.Room = size - 1
			renewFails(t, old, recs, api.ErrFull)
		}
	}
	renewFails(t, disk.Disk{}, texts(""), api.ErrFull)
	renewFails(t, disk.Disk{Bytes: pattern(27), Safe: 20, Room: 30}, [][]byte{pattern(24)}, api.ErrFull)
	full := append(slices.Repeat([][]byte{pattern(4000)}, maxRoom/4007), pattern(maxRoom%4007-7))
	renewed(t, disk.Disk{Room: maxRoom}, full)
	full[0], full[len(full)-1] = full[0][1:], pattern(maxRoom%4007-5)
	renewFails(t, disk.Disk{Room: maxRoom}, full, api.ErrFull)
}

func TestRenewWithBigRecords(t *testing.T) {
	old := disk.Disk{Bytes: plainFrames(texts("a", "b")...), Safe: 8, Room: maxRoom}
	for _, size := range []int{4001, 65536, 65537, maxRoom + 1} {
		big := pattern(size)
		for _, recs := range [][][]byte{{big}, {nil, big}, {big, nil}, {pattern(4000), big, pattern(4000)}, {big, big}} {
			renewFails(t, old, recs, api.ErrBig)
		}
	}
	renewed(t, old, [][]byte{pattern(4000)})
}

// TestRenewBigAndFull: both errors apply, and ErrBig is named first, wherever the record stands.
func TestRenewBigAndFull(t *testing.T) {
	for _, old := range []disk.Disk{{}, {Room: 10}, {Bytes: pattern(30), Safe: 7, Room: 30}} {
		renewFails(t, old, [][]byte{pattern(4001)}, api.ErrBig)
		renewFails(t, old, [][]byte{pattern(4001), pattern(100)}, api.ErrBig)
		renewFails(t, old, [][]byte{pattern(100), pattern(100), pattern(4001)}, api.ErrBig)
		renewFails(t, old, [][]byte{pattern(4000), nil}, api.ErrFull)
	}
	many := slices.Repeat([][]byte{pattern(4000)}, 300)
	renewFails(t, disk.Disk{Room: maxRoom}, many, api.ErrFull)
	renewFails(t, disk.Disk{Room: maxRoom}, append(many, pattern(4001)), api.ErrBig)
}

// P4.4

// survives checks what every possible Crash leaves of records, of which the first ones were synced.
func survives(t *testing.T, recs [][]byte, synced int) {
	t.Helper()
	d := disk.Sync(appended(t, disk.Disk{Room: 1000}, recs[:synced]...))
	safe := len(d.Bytes)
	d = appended(t, d, recs[synced:]...)
	loose := len(d.Bytes) - safe
	for keep := range 2*loose + 3 {
		c := disk.Crash(d, uint16(keep))
		stays := safe + keep%(loose+1)
		diskIs(t, "Crash", c, d.Bytes[:stays], stays, 1000)
		whole, size := synced, safe
		for whole < len(recs) && size+len(recs[whole])+7 <= stays {
			size += len(recs[whole]) + 7
			whole++
		}
		recordsAre(t, c, recs[:whole], size)
		r := disk.Repair(c)
		diskIs(t, "Repair", r, d.Bytes[:size], size, 1000)
		recordsAre(t, appended(t, r, []byte("next")), append(slices.Clone(recs[:whole]), []byte("next")), size+11)
	}
}

func TestSyncedRecordsSurvive(t *testing.T) {
	for _, recs := range [][][]byte{
		nil,
		texts("a"),
		texts("a", "b"),
		texts("", "", ""),
		texts("a", "bc", "", "def", "ghij", ""),
		{make([]byte, 20), {1, 0, 0}, plainFrame(nil), plainFrames(texts("in", "side")...), {255, 255}},
	} {
		for synced := range len(recs) + 1 {
			survives(t, recs, synced)
		}
	}
}

// source makes numbers that are the same in each run.
type source uint64

func (s *source) next(below int) int {
	*s = *s*6364136223846793005 + 1442695040888963407
	return int(uint64(*s) >> 33 % uint64(below))
}

func (s *source) bytes(below int) []byte {
	b := make([]byte, s.next(below))
	for i := range b {
		b[i] = byte(s.next(256))
	}
	return b
}

// history is a disk with what is known of it: its records, how many of them are durable, and how many bytes of an incomplete one stand behind them.
type history struct {
	d       disk.Disk
	recs    [][]byte
	durable int
	torn    int
}

func (h *history) size() int { return len(plainFrames(h.recs...)) }

func (h *history) step(t *testing.T, s *source) {
	switch s.next(8) {
	case 0, 1, 2:
		h.append(t, s.bytes(30))
	case 3:
		h.d = disk.Sync(h.d)
		h.durable = len(h.recs)
	case 4, 5:
		h.crash(t, s)
	case 6:
		var recs [][]byte
		for range s.next(4) {
			recs = append(recs, s.bytes(30))
		}
		h.renew(t, recs)
	case 7:
		h.d = disk.Crash(h.d, 0)
		h.recs = h.recs[:h.durable]
		h.repair()
	}
}

func (h *history) append(t *testing.T, rec []byte) {
	next, e := disk.Append(h.d, rec)
	if h.size()+len(rec)+7 > h.d.Room {
		if e != api.ErrFull {
			t.Errorf("Append to a full disk = %d", e)
		}
		return
	}
	if e != api.OK {
		t.Errorf("Append = %d", e)
	}
	h.d = next
	h.recs = append(h.recs, rec)
}

func (h *history) renew(t *testing.T, recs [][]byte) {
	next, e := disk.Renew(h.d, recs)
	if len(plainFrames(recs...)) > h.d.Room {
		if e != api.ErrFull {
			t.Errorf("Renew with too much = %d", e)
		}
		return
	}
	if e != api.OK {
		t.Errorf("Renew = %d", e)
	}
	h.d = next
	h.recs, h.durable = recs, len(recs)
}

func (h *history) crash(t *testing.T, s *source) {
	h.d = disk.Crash(h.d, uint16(s.next(1<<16)))
	l, size := disk.Records(h.d)
	if len(l) < h.durable || len(l) > len(h.recs) {
		t.Fatalf("a Crash left %d records of %d, %d durable", len(l), len(h.recs), h.durable)
	}
	h.recs, h.durable = h.recs[:len(l)], len(l)
	h.torn = len(h.d.Bytes) - size
	h.check(t)
	h.repair()
}

func (h *history) repair() {
	h.d = disk.Repair(h.d)
	h.torn = 0
}

func (h *history) check(t *testing.T) {
	t.Helper()
	recordsAre(t, h.d, h.recs, h.size())
	if len(h.d.Bytes) != h.size()+h.torn || h.d.Safe != len(plainFrames(h.recs[:h.durable]...))+h.torn {
		t.Errorf("%d bytes, Safe %d, with %d records, %d durable, %d bytes behind them", len(h.d.Bytes), h.d.Safe, len(h.recs), h.durable, h.torn)
	}
}

func TestHistories(t *testing.T) {
	s := source(1)
	for range 2000 {
		h := history{d: disk.Disk{Room: s.next(200)}}
		for range 40 {
			h.step(t, &s)
			h.check(t)
		}
	}
}

// Disks that are not valid: only that the calls end, and do not panic, is promised.

func TestDisksThatAreNotValid(t *testing.T) {
	numbers := []int{math.MinInt, math.MinInt + 1, -maxRoom, -2, -1, 0, 1, 8, 9, 20, 21, 22, 30, maxRoom + 1, math.MaxInt - 1, math.MaxInt}
	contents := [][]byte{nil, plainFrame([]byte("a")), slices.Concat(plainFrame([]byte("a")), []byte{1, 0}), pattern(20), append(plainFrame(pattern(4000)), 0, 1, 2)}
	recs := [][][]byte{nil, texts(""), texts("x", "y"), {pattern(4001)}, {pattern(4000), pattern(4000)}}
	for _, b := range contents {
		for _, safe := range numbers {
			for _, room := range numbers {
				d := disk.Disk{Bytes: b, Safe: safe, Room: room}
				was := copyOf(d)
				for _, l := range recs {
					disk.Renew(d, l)
					for _, rec := range l {
						disk.Append(d, rec)
					}
				}
				for _, keep := range []uint16{0, 1, 2, 7, 32768, 65535} {
					disk.Crash(d, keep)
				}
				disk.Sync(d)
				disk.Records(d)
				disk.Repair(d)
				diskIs(t, "the argument", d, was.Bytes, safe, room)
			}
		}
	}
}

// R4 and R6

// answers are the disks that each call returns for a disk, with an error and without one.
func answers(d disk.Disk) map[string]disk.Disk {
	l := map[string]disk.Disk{"Sync": disk.Sync(d), "Repair": disk.Repair(d)}
	l["Append"], _ = disk.Append(d, []byte("x"))
	l["Append, ErrBig"], _ = disk.Append(d, pattern(4001))
	l["Append, ErrFull"], _ = disk.Append(d, pattern(4000))
	l["Renew"], _ = disk.Renew(d, texts("x", "y"))
	l["Renew, ErrBig"], _ = disk.Renew(d, [][]byte{pattern(4001)})
	l["Renew, ErrFull"], _ = disk.Renew(d, [][]byte{pattern(4000)})
	l["Crash(0)"] = disk.Crash(d, 0)
	l["Crash(5)"] = disk.Crash(d, 5)
	l["Crash(all)"] = disk.Crash(d, uint16(len(d.Bytes)-d.Safe))
	return l
}

// overwrite writes over all of a slice, and over what its capacity has beyond it.
func overwrite(b []byte) {
	b = b[:cap(b)]
	for i := range b {
		b[i] = 0xee
	}
}

func TestDisksShareNothing(t *testing.T) {
	want := slices.Concat(plainFrames(texts("a", "bc")...), []byte{1, 0, 9})
	// Bytes stand behind those of the disk: no call may write there.
	whole := slices.Concat(want, bytes.Repeat([]byte{0x55}, 100))
	d := disk.Disk{Bytes: whole[:len(want)], Safe: 8, Room: 100}
	first, second := answers(d), answers(d)
	for name, a := range second {
		overwrite(a.Bytes)
		if !bytes.Equal(d.Bytes, want) || bytes.Count(whole[len(want):], []byte{0x55}) != 100 {
			t.Fatalf("writing to what %s returned changed its argument: %x", name, whole)
		}
	}
	overwrite(whole)
	again := disk.Disk{Bytes: slices.Clone(want), Safe: 8, Room: 100}
	for name, a := range answers(again) {
		diskIs(t, name, first[name], a.Bytes, a.Safe, a.Room)
	}
}

func TestAppendsToOneDiskAreApart(t *testing.T) {
	d := appended(t, disk.Disk{Room: 100}, []byte("a"))
	x := appended(t, d, []byte("x"))
	y := appended(t, d, []byte("y"))
	recordsAre(t, x, texts("a", "x"), 16)
	recordsAre(t, y, texts("a", "y"), 16)
	recordsAre(t, d, texts("a"), 8)
}

func TestRecordsShareNothing(t *testing.T) {
	want := plainFrames(texts("abc", "", "def")...)
	d := disk.Disk{Bytes: slices.Clone(want), Room: 100}
	l, _ := disk.Records(d)
	m, _ := disk.Records(d)
	if len(l) != 3 || len(m) != 3 {
		t.Fatalf("%d and %d records", len(l), len(m))
	}
	for _, rec := range m {
		overwrite(rec)
	}
	overwrite(l[0])
	_ = append(l[1], 1, 2, 3, 4, 5, 6, 7, 8, 9)
	if !bytes.Equal(d.Bytes, want) {
		t.Errorf("writing to records changed the disk: %x", d.Bytes)
	}
	overwrite(d.Bytes)
	if string(l[2]) != "def" {
		t.Errorf("records share memory: %q", l)
	}
}

func TestGivenRecordsAreNeitherChangedNorKept(t *testing.T) {
	whole := []byte("abcbehind")
	rec := whole[:3]
	a := appended(t, disk.Disk{Room: 100}, rec)
	recs := [][]byte{rec, rec}
	r := renewed(t, disk.Disk{Room: 100}, recs)
	renewFails(t, disk.Disk{Room: 10}, recs, api.ErrFull)
	if string(whole) != "abcbehind" || len(recs) != 2 || len(recs[0]) != 3 || len(recs[1]) != 3 {
		t.Errorf("the records were changed: %q, %q", whole, recs)
	}
	overwrite(whole)
	recs[1] = nil
	recordsAre(t, a, texts("abc"), 10)
	recordsAre(t, r, texts("abc", "abc"), 20)
	rec = []byte("abc")
	next := appended(t, disk.Disk{Room: 100}, rec)
	overwrite(next.Bytes)
	if string(rec) != "abc" {
		t.Errorf("writing to the disk changed the record: %q", rec)
	}
}

func TestSameAnswers(t *testing.T) {
	ask := func() map[string]disk.Disk {
		return answers(disk.Disk{Bytes: plainFrames(texts("a", "bc")...), Safe: 8, Room: 30})
	}
	before := ask()
	disk.Append(disk.Disk{}, pattern(4001))
	disk.Crash(disk.Disk{Bytes: pattern(20), Safe: 30, Room: 1}, 9)
	disk.Renew(disk.Disk{Room: maxRoom}, [][]byte{pattern(4000), pattern(4000)})
	for name, a := range ask() {
		diskIs(t, name, a, before[name].Bytes, before[name].Safe, before[name].Room)
	}
}
