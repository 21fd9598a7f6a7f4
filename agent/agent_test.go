package agent_test

import (
	"math"
	"slices"
	"strings"
	"testing"

	"waystation/agent"
	"waystation/api"
	"waystation/hand"
	"waystation/note"
)

// The chapter's type and calls: a field in another place, or of another type, does not compile.

var (
	_ = struct{ Tx, Vote int }(agent.Ballot{})

	_ func([]agent.Ballot) (string, api.Errno)             = agent.Pack
	_ func(string) ([]agent.Ballot, api.Errno)             = agent.Unpack
	_ func(hand.Side, agent.Ballot) (hand.Side, api.Errno) = agent.Ship
	_ func(hand.Side, uint8) ([]note.Note, api.Errno)      = agent.Speak
)

// The calls, each made twice, and held against the chapter's words.

// pack lends a list with more behind it in memory, none of which may count, and none of which may be written to; that the list is written over later must not show in the cargo.
func pack(t *testing.T, l ballots) (string, api.Errno) {
	t.Helper()
	want, wantErr := plainPack(l)
	memory := append(slices.Clone(l), ballot(0, 1), ballot(999, 2), ballot(-1, 3))
	was := slices.Clone(memory)
	for _, given := range []ballots{memory[:len(l)], memory[:len(l):len(l)]} {
		s, e := agent.Pack(given)
		if !slices.Equal(memory, was) {
			t.Fatalf("Pack(%s) changed what it was given", showList(l))
		}
		overwrite(memory)
		if s != want || e != wantErr {
			t.Fatalf("Pack(%s) = %s, %d, want %s, %d", showList(l), showText(s), e, showText(want), wantErr)
		}
		copy(memory, was)
	}
	return want, wantErr
}

// unpack writes the list over, up to its capacity, which must not show in that of the second call.
func unpack(t *testing.T, s string) (ballots, api.Errno) {
	t.Helper()
	want, wantErr := plainUnpack(s)
	for range 2 {
		l, e := agent.Unpack(s)
		if !slices.Equal(l, want) || e != wantErr {
			t.Fatalf("Unpack(%s) = %s, %d, want %s, %d", showText(s), showList(l), e, showList(want), wantErr)
		}
		overwrite(l[:cap(l)])
	}
	return want, wantErr
}

func overwrite(l ballots) {
	for i := range l {
		l[i] = ballot(-77, 77)
	}
}

// isRight checks a list that is valid, and all that follows from it.
func isRight(t *testing.T, l ballots) {
	t.Helper()
	s, e := pack(t, l)
	if e != api.OK {
		t.Fatalf("Pack(%s) = %d", showList(l), e)
	}
	if back, e := unpack(t, s); !slices.Equal(back, l) || e != api.OK {
		t.Fatalf("Unpack(Pack(%s)) = %s, %d", showList(l), showList(back), e)
	}
}

func packFails(t *testing.T, l ballots) {
	t.Helper()
	if s, e := pack(t, l); s != "" || e != api.ErrArg {
		t.Fatalf("Pack(%s) = %s, %d", showList(l), showText(s), e)
	}
}

func unpackFails(t *testing.T, s string) {
	t.Helper()
	if l, e := unpack(t, s); len(l) != 0 || e != api.ErrForm {
		t.Fatalf("Unpack(%s) = %s, %d", showText(s), showList(l), e)
	}
}

// either checks a list that may be valid or not.
func either(t *testing.T, l ballots) bool {
	t.Helper()
	if valid(l) {
		isRight(t, l)
		return true
	}
	packFails(t, l)
	return false
}

// text checks a text that may be a cargo of a valid list or not.
func text(t *testing.T, s string) bool {
	t.Helper()
	l, e := unpack(t, s)
	if e != api.OK {
		return false
	}
	if again, e := pack(t, l); again != s || e != api.OK {
		t.Fatalf("Pack(Unpack(%s)) = %s, %d", showText(s), showText(again), e)
	}
	return true
}

// P19.1 of Pack

func TestExample(t *testing.T) {
	l := ballots{{Tx: 7, Vote: 1}, {Tx: 9, Vote: 2}}
	if s, e := agent.Pack(l); s != "\x00\x07\x01\x00\x09\x02" || e != api.OK {
		t.Errorf("Pack(%v) = %x, %d", l, s, e)
	}
	if back, e := agent.Unpack("\x00\x07\x01\x00\x09\x02"); !slices.Equal(back, l) || e != api.OK {
		t.Errorf("Unpack = %v, %d", back, e)
	}
	isRight(t, l)
}

func TestNoBallots(t *testing.T) {
	for _, l := range []ballots{nil, {}, make(ballots, 0, 9)} {
		if s, e := agent.Pack(l); s != "" || e != api.OK {
			t.Errorf("Pack of no ballots = %x, %d", s, e)
		}
		isRight(t, l)
	}
	if l, e := agent.Unpack(""); len(l) != 0 || e != api.OK {
		t.Errorf("Unpack of no text = %v, %d", l, e)
	}
}

func TestBytesOfCargos(t *testing.T) {
	for _, c := range []struct {
		l ballots
		s string
	}{
		{ballots{{Tx: 0, Vote: 1}}, "\x00\x00\x01"},
		{ballots{{Tx: 0, Vote: 2}}, "\x00\x00\x02"},
		{ballots{{Tx: 999, Vote: 1}}, "\x03\xe7\x01"},
		{ballots{{Tx: 255, Vote: 2}, {Tx: 256, Vote: 1}}, "\x00\xff\x02\x01\x00\x01"},
		{ballots{{Tx: 0, Vote: 1}, {Tx: 513, Vote: 2}, {Tx: 998, Vote: 2}}, "\x00\x00\x01\x02\x01\x02\x03\xe6\x02"},
	} {
		if s, e := agent.Pack(c.l); s != c.s || e != api.OK {
			t.Errorf("Pack(%v) = %x, %d, want %x", c.l, s, e, c.s)
		}
		if l, e := agent.Unpack(c.s); !slices.Equal(l, c.l) || e != api.OK {
			t.Errorf("Unpack(%x) = %v, %d, want %v", c.s, l, e, c.l)
		}
	}
}

func TestValidLists(t *testing.T) {
	for _, l := range validLists() {
		isRight(t, l)
	}
}

func TestOneBallot(t *testing.T) {
	right := 0
	for _, b := range allBallots() {
		if either(t, ballots{b}) {
			right++
		}
	}
	for tx := -1100; tx <= 1100; tx++ {
		for vote := -2; vote <= 4; vote++ {
			if either(t, ballots{ballot(tx, vote)}) != (tx >= 0 && tx <= 999 && (vote == 1 || vote == 2)) {
				t.Fatalf("the ballot %d %d", tx, vote)
			}
		}
	}
	for tx := -70000; tx <= 140000; tx++ {
		if either(t, ballots{ballot(tx, 1+tx&1)}) != (tx >= 0 && tx <= 999) {
			t.Fatalf("the Tx %d", tx)
		}
	}
	for vote := -1000; vote <= 1000; vote++ {
		if either(t, ballots{ballot(7, vote)}) != (vote == 1 || vote == 2) {
			t.Fatalf("the Vote %d", vote)
		}
	}
	if right != 2*13 {
		t.Errorf("%d of the ballots are valid", right)
	}
}

// TestTwoBallots: any two of the edges, and any two that stand beside each other.
func TestTwoBallots(t *testing.T) {
	for _, a := range txs() {
		for _, b := range txs() {
			for votes := range 16 {
				either(t, ballots{ballot(a, votes%4), ballot(b, votes/4)})
			}
		}
	}
	for tx := -1; tx <= 1000; tx++ {
		for by := -2; by <= 2; by++ {
			for votes := range 4 {
				l := ballots{ballot(tx, 1+votes%2), ballot(tx+by, 1+votes/2)}
				if either(t, l) != (by > 0 && tx >= 0 && tx+by <= 999) {
					t.Fatalf("the list %v", l)
				}
			}
		}
	}
}

// listsOf are all lists of up to most of these ballots.
func listsOf(most int, from ballots) func(func(ballots) bool) {
	return func(yield func(ballots) bool) {
		var grow func(l ballots) bool
		grow = func(l ballots) bool {
			if !yield(l) {
				return false
			}
			if len(l) == most {
				return true
			}
			for _, b := range from {
				if !grow(append(slices.Clone(l), b)) {
					return false
				}
			}
			return true
		}
		grow(nil)
	}
}

func product(txs, votes []int) ballots {
	var l ballots
	for _, tx := range txs {
		for _, vote := range votes {
			l = append(l, ballot(tx, vote))
		}
	}
	return l
}

func TestSmallLists(t *testing.T) {
	right := 0
	for l := range listsOf(3, product([]int{-1, 0, 1, 998, 999, 1000}, []int{0, 1, 2, 3})) {
		if either(t, l) {
			right++
		}
	}
	// No ballot, one of four Tx, two of six, three of four, each with either vote.
	if right != 1+4*2+6*4+4*8 {
		t.Errorf("%d of the first lists are valid", right)
	}
	right = 0
	for l := range listsOf(5, product([]int{0, 1, 2, 3}, []int{1, 2})) {
		if either(t, l) {
			right++
		}
	}
	if right != 1+4*2+6*4+4*8+16 {
		t.Errorf("%d of the second lists are valid", right)
	}
}

func TestEachLength(t *testing.T) {
	for n := range 120 {
		for _, l := range []ballots{evenly(n, 0, 1), evenly(n, 1000-n, 1), evenly(n, 5, 8)} {
			if either(t, l) != (n <= 50) {
				t.Fatalf("a list of %d", n)
			}
			if either(t, slices.Concat(l, of(999))) != (n < 50 && (n == 0 || l[n-1].Tx < 999)) {
				t.Fatalf("a list of %d and one", n)
			}
		}
	}
	for _, n := range []int{255, 256, 257, 300, 306, 512, 999, 1000} {
		packFails(t, evenly(n, 0, 1))
	}
	for _, n := range []int{1001, 65536, 65537, 65586} {
		packFails(t, evenly(n, 0, 1))
		packFails(t, make(ballots, n))
	}
}

// TestFaultAtEachPlace: a list that is valid but for one of its ballots.
func TestFaultAtEachPlace(t *testing.T) {
	for _, l := range []ballots{of(7, 9), of(0, 500, 999), evenly(49, 0, 1), evenly(50, 0, 1), evenly(50, 950, 1), evenly(50, 3, 7)} {
		for at := range l {
			for _, b := range wrongBallots() {
				packFails(t, with(l, at, b))
			}
			for _, vote := range []int{-1, 0, 3} {
				packFails(t, with(l, at, ballot(l[at].Tx, vote)))
			}
			isRight(t, with(l, at, other(l[at])))
			for to := range l {
				if to != at {
					packFails(t, with(l, at, l[to]))
					packFails(t, with(l, at, other(l[to])))
					packFails(t, with(with(l, at, l[to]), to, l[at]))
				}
			}
			isRight(t, slices.Delete(slices.Clone(l), at, at+1))
			packFails(t, slices.Insert(slices.Clone(l), at, l[at]))
			packFails(t, slices.Insert(slices.Clone(l), at, other(l[at])))
		}
	}
}

// TestEachTxAtEachPlace: what may stand between two others.
func TestEachTxAtEachPlace(t *testing.T) {
	for _, l := range []ballots{of(10, 20, 30), of(0, 1, 2), of(0, 500, 999), of(997, 998, 999)} {
		for at := range l {
			for tx := -3; tx <= 1003; tx++ {
				either(t, with(l, at, ballot(tx, 1)))
				either(t, with(l, at, ballot(tx, 2)))
			}
		}
	}
}

func TestManyLists(t *testing.T) {
	from := source(19)
	right := 0
	for range 100000 {
		var l ballots
		tx := from.next(30) - 1
		for range from.next(54) {
			l = append(l, ballot(tx, 1+from.next(2)))
			tx += 1 + from.next(38)
		}
		for range from.next(3) {
			if len(l) > 0 {
				l[from.next(len(l))] = ballot(from.next(1002)-1, from.next(4))
			}
		}
		if either(t, l) {
			right++
		}
	}
	if right < 20000 || right > 80000 {
		t.Errorf("%d of the lists are valid", right)
	}
}

// P19.1 of Unpack

func TestWrongCargos(t *testing.T) {
	for _, s := range wrongCargos() {
		unpackFails(t, s)
	}
}

// TestShortTexts: all of up to two bytes, and those of three from which a ballot may come, or nearly so.
func TestShortTexts(t *testing.T) {
	for x := range 256 {
		unpackFails(t, string([]byte{byte(x)}))
		for y := range 256 {
			unpackFails(t, string([]byte{byte(x), byte(y)}))
		}
	}
	right := 0
	for _, x := range []int{0, 1, 2, 3, 4, 5, 7, 127, 128, 131, 255} {
		for y := range 256 {
			for z := range 256 {
				if text(t, string([]byte{byte(x), byte(y), byte(z)})) {
					right++
				}
			}
		}
	}
	if right != 2000 {
		t.Errorf("%d of the texts are cargos", right)
	}
}

func TestCutCargos(t *testing.T) {
	for _, l := range validLists() {
		s := plainCargo(l)
		for i := range len(s) {
			text(t, s[:i])
			text(t, s[i:])
			text(t, s[:i]+s[i+1:])
			if i%3 != 0 {
				unpackFails(t, s[:i])
				unpackFails(t, s[i:])
			}
			unpackFails(t, s[:i]+s[i+1:])
		}
	}
}

func TestBytesMore(t *testing.T) {
	for _, l := range validLists() {
		s := plainCargo(l)
		for x := range 256 {
			unpackFails(t, s+string([]byte{byte(x)}))
			unpackFails(t, string([]byte{byte(x)})+s)
			unpackFails(t, s+string([]byte{0, byte(x)}))
			unpackFails(t, string([]byte{0, byte(x)})+s)
			text(t, s+string([]byte{3, byte(x), 1}))
			text(t, string([]byte{0, byte(x), 2})+s)
		}
		for i := range len(s) {
			text(t, s[:i]+"\x00"+s[i:])
			text(t, s[:i]+"\x01"+s[i:])
			text(t, s[:i]+"\x00\x00\x01"+s[i:])
		}
		for _, size := range []int{1, 2, 3, 6, 150, 256, 501, 4000, 4001, 65536} {
			unpackFails(t, s+strings.Repeat("\x00", size))
			unpackFails(t, strings.Repeat("\x00", size)+s)
		}
	}
}

func TestTwoCargos(t *testing.T) {
	lists := validLists()
	for _, a := range lists {
		for _, b := range lists {
			if text(t, plainCargo(a)+plainCargo(b)) != valid(slices.Concat(a, b)) {
				t.Fatalf("the cargos of %s and %s", showList(a), showList(b))
			}
		}
	}
}

func TestEachByteChanged(t *testing.T) {
	right := 0
	for _, l := range []ballots{of(7), of(0, 1), of(255, 256, 999), evenly(49, 0, 1), evenly(50, 0, 20), evenly(50, 950, 1)} {
		s := []byte(plainCargo(l))
		for i := range s {
			for x := range 256 {
				if text(t, string(with(s, i, byte(x)))) && byte(x) != s[i] {
					right++
				}
			}
		}
	}
	if right < 1000 {
		t.Errorf("%d of the texts are cargos", right)
	}
}

func TestPairsOfBytesChanged(t *testing.T) {
	edges := []byte{0, 1, 2, 3, 4, 7, 127, 128, 230, 231, 232, 255}
	for _, l := range []ballots{of(0, 1), of(7, 300), of(255, 256, 999), of(997, 998, 999)} {
		s := []byte(plainCargo(l))
		for i := range s {
			for k := range i {
				for _, x := range edges {
					for _, y := range edges {
						text(t, string(with(with(s, i, x), k, y)))
					}
				}
			}
		}
	}
}

func TestLongTexts(t *testing.T) {
	for n := range 120 {
		if text(t, plainCargo(evenly(n, 0, 1))) != (n <= 50) || text(t, plainCargo(evenly(n, 3, 8))) != (n <= 50) {
			t.Fatalf("the cargo of %d ballots", n)
		}
	}
	for _, n := range []int{255, 256, 257, 300, 306, 512, 1000} {
		unpackFails(t, plainCargo(evenly(n, 0, 1)))
	}
	for _, n := range []int{151, 152, 153, 300, 303, 500, 501, 4000, 4002, 65536, 65538, 1 << 20, 1<<20 + 2} {
		unpackFails(t, strings.Repeat("\x00", n))
		unpackFails(t, strings.Repeat("\x00\x07\x01", n/3))
		unpackFails(t, plainCargo(evenly(50, 3, 7))+strings.Repeat("\xff", n))
	}
}

func TestManyTexts(t *testing.T) {
	from := source(191)
	lists := validLists()
	right := 0
	for range 200000 {
		s := []byte(plainCargo(lists[from.next(len(lists))]))
		for range from.next(4) {
			s = change(s, &from)
		}
		if text(t, string(s)) {
			right++
		}
	}
	if right < 50000 || right > 150000 {
		t.Errorf("%d of the texts are cargos", right)
	}
}

func change(b []byte, from *source) []byte {
	if len(b) == 0 {
		return b
	}
	i := from.next(len(b))
	switch from.next(6) {
	case 0:
		return slices.Delete(b, i, i+1)
	case 1:
		return slices.Insert(b, i, byte(from.next(256)))
	case 2:
		i -= i % 3
		return slices.Delete(b, i, min(i+3, len(b)))
	case 3:
		b[i] ^= 1 << from.next(8)
	default:
		b[i] = byte(from.next(4))
	}
	return b
}

// TestMemory: R6, of several results that are there at one time.
func TestMemory(t *testing.T) {
	for _, want := range validLists() {
		s := plainCargo(want)
		var results []ballots
		for range 5 {
			l, _ := agent.Unpack(s)
			results = append(results, l)
		}
		for i, l := range results {
			if !slices.Equal(l, want) {
				t.Fatalf("Unpack(%s): result %d was written over by way of another", showText(s), i)
			}
			overwrite(l[:cap(l)])
			overwrite(append(l, ballot(1, 1)))
		}
		given := slices.Clone(want)
		first, _ := agent.Pack(given)
		overwrite(given)
		second, _ := agent.Pack(want)
		if first != s || second != s {
			t.Fatalf("%s became %s and %s, when the list was written over", showText(s), showText(first), showText(second))
		}
	}
}

// TestRow: R4, that what a call answers does not hang on the calls before it.
func TestRow(t *testing.T) {
	lists, wrong := validLists(), wrongCargos()
	for range 3 {
		for i, l := range lists {
			for k, s := range wrong {
				unpackFails(t, s)
				isRight(t, l)
				packFails(t, slices.Concat(l, ballots{ballot(1000+k, 1)}))
				isRight(t, lists[(i+7*k)%len(lists)])
			}
		}
	}
}

func TestExtremes(t *testing.T) {
	for _, l := range []ballots{
		{ballot(math.MinInt, 1), ballot(math.MaxInt, 1)}, {ballot(math.MaxInt, 1), ballot(math.MinInt, 1)},
		{ballot(0, 1), ballot(math.MaxInt, 1)}, {ballot(math.MinInt, 2), ballot(0, 2)},
		{ballot(0, math.MinInt), ballot(1, math.MaxInt)}, {ballot(math.MaxInt, 1), ballot(0, 1)}, {ballot(0, 1), ballot(math.MinInt, 1)},
		{ballot(math.MaxInt, 1), ballot(math.MaxInt, 1)}, {ballot(math.MinInt, math.MinInt)}, {ballot(-1, 1), ballot(0, 1)}, {ballot(999, 1), ballot(1000, 1)},
	} {
		packFails(t, l)
	}
}
