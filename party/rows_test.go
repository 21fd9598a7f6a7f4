package party_test

import (
	"math"
	"slices"
	"strings"
	"testing"

	"waystation/api"
	"waystation/party"
)

// P16.4 and P16.5, in every state that a few texts can come to.

// pair is two parties as a state: what the one waits for, what the other one heard, the texts that were said, and those that were told. A text is one letter.
type pair struct {
	next, room, heard int
	wait, said, told  string
}

func (s pair) out() party.Out {
	var wait packets
	for i := range s.wait {
		wait = append(wait, party.Packet{Seq: s.next - len(s.wait) + i, Text: s.wait[i : i+1]})
	}
	return outOf(s.next, s.room, wait...)
}

// with is the state in which a sender is put in the other one's place.
func (s pair) with(o party.Out) pair {
	var wait []string
	for _, p := range o.Wait {
		wait = append(wait, p.Text)
	}
	s.next, s.room, s.wait = o.Next, o.Room, strings.Join(wait, "")
	return s
}

// hear brings a packet to the receiver.
func (s pair) hear(t *testing.T, p party.Packet) pair {
	t.Helper()
	i, text, e := hear(t, party.In{Heard: s.heard}, p)
	s.heard = i.Heard
	if e == api.OK {
		s.told += text
	}
	return s
}

// check holds a state against P16.4, and against what P16.5 rests on: what was not told still waits.
func (s pair) check(t *testing.T, first int) {
	t.Helper()
	switch {
	case !strings.HasPrefix(s.said, s.told):
		t.Fatalf("%+v: told, and not said so", s)
	case s.heard != first+len(s.told), s.next != first+len(s.said):
		t.Fatalf("%+v: miscounted", s)
	case !strings.HasSuffix(s.said, s.wait), !party.Right(s.out()):
		t.Fatalf("%+v: what waits was not said so", s)
	case len(s.said)-len(s.wait) > len(s.told):
		t.Fatalf("%+v: lost", s)
	}
}

// walk goes through all states of a pair. Each packet that was said may arrive at any time and again, and so may each acknowledgement of what was heard.
type walk struct {
	first, most int
	seen        map[pair]bool
	left        []pair
}

func (w *walk) add(s pair) {
	if !w.seen[s] {
		w.seen[s] = true
		w.left = append(w.left, s)
	}
}

func (w *walk) each(t *testing.T, see func(pair)) {
	t.Helper()
	for len(w.left) > 0 {
		s := w.left[len(w.left)-1]
		w.left = w.left[:len(w.left)-1]
		s.check(t, w.first)
		see(s)
		w.say(t, s)
		for i := range len(s.said) {
			w.add(s.hear(t, party.Packet{Seq: w.first + i, Text: s.said[i : i+1]}))
		}
		for heard := w.first; heard <= s.heard; heard++ {
			o, e := acked(t, s.out(), heard)
			if e != api.OK {
				t.Fatalf("%+v: Acked(%d) = %d", s, heard, e)
			}
			w.add(s.with(o))
		}
	}
}

// say says either of two texts, so that texts which are alike stand beside others.
func (w *walk) say(t *testing.T, s pair) {
	t.Helper()
	for _, text := range []string{"a", "b"} {
		o, _, e := say(t, s.out(), text)
		next := s.with(o)
		if e == api.OK {
			next.said += text
		} else if next != s {
			t.Fatalf("%+v became %+v with the error %d", s, next, e)
		}
		if len(next.said) <= w.most {
			w.add(next)
		}
	}
}

// settle sends what waits again and again, in an order, and acknowledges what was heard behind each round.
func (s pair) settle(t *testing.T, backward bool) (pair, int) {
	t.Helper()
	rounds := 0
	for ; s.wait != ""; rounds++ {
		if rounds > len(s.said) {
			t.Fatalf("%+v: it does not end", s)
		}
		wait := s.out().Wait
		if backward {
			slices.Reverse(wait)
		}
		for _, p := range wait {
			s = s.hear(t, p)
		}
		o, e := acked(t, s.out(), s.heard)
		if e != api.OK {
			t.Fatalf("%+v: Acked(%d) = %d", s, s.heard, e)
		}
		s = s.with(o)
	}
	return s, rounds
}

func TestAllThatCanCome(t *testing.T) {
	for _, first := range []int{0, 1, 1000, lastNumber - 4, lastNumber - 2} {
		for room := 1; room <= 4; room++ {
			w := &walk{first: first, most: 4, seen: map[pair]bool{}}
			w.add(pair{next: first, heard: first, room: room})
			w.each(t, func(s pair) {
				untold := len(s.said) - len(s.told)
				end, rounds := s.settle(t, false)
				if end.told != s.said || rounds > 1 {
					t.Fatalf("%+v: settled in %d rounds to %+v", s, rounds, end)
				}
				end, rounds = s.settle(t, true)
				if end.told != s.said || rounds > max(untold, 1) {
					t.Fatalf("%+v: settled backward in %d rounds to %+v", s, rounds, end)
				}
			})
			if len(w.seen) != statesOf(room, min(4, lastNumber-first)) {
				t.Errorf("from %d on, with a room of %d: %d states", first, room, len(w.seen))
			}
		}
	}
}

// statesOf is how many states there are of up to most texts of two: those told may be any beginning of those said, and those that wait any end of them that has all that were not told, and for which there is room.
func statesOf(room, most int) int {
	n := 0
	for said := range most + 1 {
		for told := range said + 1 {
			for wait := said - told; wait <= min(said, room); wait++ {
				n += 1 << said
			}
		}
	}
	return n
}

// toldBy is what is told when the packets arrive in this row.
func toldBy(t *testing.T, sent packets, row []int) []string {
	t.Helper()
	var told []string
	var i party.In
	for _, at := range row {
		next, text, e := hear(t, i, sent[at])
		if e == api.OK {
			told = append(told, text)
		}
		i = next
	}
	return told
}

// TestEveryRowOfArrivals: four packets arrive in every row of up to eight, in whatever order, once, several times or never.
func TestEveryRowOfArrivals(t *testing.T) {
	var sent packets
	said := []string{"", "a", "a", "\xff"}
	o := outOf(0, 4)
	for _, text := range said {
		next, p, e := say(t, o, text)
		if e != api.OK {
			t.Fatalf("Say(%s, %s) = %d", showOut(o), showText(text), e)
		}
		o, sent = next, append(sent, p)
	}
	whole := 0
	for row := range listsOf(8, 0, 1, 2, 3) {
		// The next text is told as soon as its packet comes behind all those ahead of it.
		n := 0
		for _, at := range row {
			if at == n {
				n++
			}
		}
		told := toldBy(t, sent, row)
		if !slices.Equal(told, said[:n]) {
			t.Fatalf("%v arrive: %q were told", row, told)
		}
		if n == len(said) {
			whole++
		}
	}
	if whole == 0 {
		t.Error("in no row all texts were told")
	}
}

// source makes numbers that are the same in each run.
type source uint64

func (s *source) next(below int) int {
	*s = *s*6364136223846793005 + 1442695040888963407
	return int(uint64(*s) >> 33 % uint64(below))
}

func (s *source) text() string {
	switch s.next(20) {
	case 0:
		return ""
	case 1:
		return bytesOf(500)
	case 2:
		return bytesOf(501 + s.next(3))
	}
	return string([]byte{byte(s.next(256)), byte(s.next(256))})
}

// run is two parties, the packets and acknowledgements on their way, and what was said and told so far.
type run struct {
	first      int
	out        party.Out
	in         party.In
	way        packets
	acks       []int
	said, told []string
	seen       map[api.Errno]int
}

func beginRun(first, room int) *run {
	return &run{first: first, out: outOf(first, room), in: party.In{Heard: first}, seen: map[api.Errno]int{}}
}

func (r *run) say(t *testing.T, text string) {
	t.Helper()
	next, p, e := say(t, r.out, text)
	if e == api.OK {
		r.said = append(r.said, text)
		r.way = append(r.way, p)
	}
	r.out = next
	r.seen[e]++
}

func (r *run) hear(t *testing.T, p party.Packet) {
	t.Helper()
	next, text, e := hear(t, r.in, p)
	if e == api.OK {
		r.told = append(r.told, text)
		if n := len(r.told); n > len(r.said) || r.said[n-1] != text {
			t.Fatalf("number %d: told %s", n-1, showText(text))
		}
	}
	r.in = next
	r.seen[e]++
}

func (r *run) acked(t *testing.T, heard int) {
	t.Helper()
	next, e := acked(t, r.out, heard)
	if e != api.OK {
		t.Fatalf("Acked(%s, %d) = %d", showOut(r.out), heard, e)
	}
	r.out = next
}

// check holds the run against P16.4, and against what P16.5 rests on.
func (r *run) check(t *testing.T) {
	t.Helper()
	first := r.out.Next - len(r.out.Wait)
	switch {
	case r.in.Heard != r.first+len(r.told), r.out.Next != r.first+len(r.said), len(r.told) > len(r.said):
		t.Fatalf("%d said, and %d told: %s, %d", len(r.said), len(r.told), showOut(r.out), r.in.Heard)
	case first > r.in.Heard:
		t.Fatalf("%d were heard, and the first that waits is %d", r.in.Heard, first)
	}
	for i, p := range r.out.Wait {
		if p != (party.Packet{Seq: first + i, Text: r.said[first+i-r.first]}) {
			t.Fatalf("%s waits, at %d of %s", showPacket(p), i, showOut(r.out))
		}
	}
}

// step is one of all that may come to pass: a text is said, what waits is sent again, a packet arrives, arrives long after, or is lost, and so an acknowledgement.
func (r *run) step(t *testing.T, from *source) {
	t.Helper()
	switch from.next(8) {
	case 0, 1:
		for range from.next(4) {
			r.say(t, from.text())
		}
	case 2:
		r.way = append(r.way, r.out.Wait...)
	case 3:
		r.acks = append(r.acks, r.in.Heard)
	case 4:
		if n := len(r.acks); n > 0 {
			r.acked(t, r.acks[n-1-from.next(n)*from.next(2)])
		}
	default:
		r.one(t, from)
	}
	if len(r.way) > 300 {
		r.way = slices.Delete(r.way, 0, from.next(300))
	}
	r.check(t)
}

// one takes any packet off its way, or leaves it there to come once more.
func (r *run) one(t *testing.T, from *source) {
	t.Helper()
	for range from.next(6) {
		if len(r.way) == 0 {
			return
		}
		at := from.next(len(r.way))
		p := r.way[at]
		if from.next(3) > 0 {
			r.way = slices.Delete(r.way, at, at+1)
		}
		if from.next(4) > 0 {
			r.hear(t, p)
		}
	}
}

// settle sends what waits again and again, of which at least one packet arrives sooner or later, until nothing waits.
func (r *run) settle(t *testing.T, from *source) {
	t.Helper()
	for rounds := 0; len(r.out.Wait) > 0; rounds++ {
		if rounds > 10000 {
			t.Fatalf("it does not end: %s, %d", showOut(r.out), r.in.Heard)
		}
		for _, p := range r.out.Wait {
			if from.next(2) == 0 {
				r.hear(t, p)
			}
		}
		if from.next(2) == 0 {
			r.acked(t, r.in.Heard)
		}
		r.check(t)
	}
	if !slices.Equal(r.told, r.said) {
		t.Fatalf("%d were said, and %d told", len(r.said), len(r.told))
	}
}

func TestLongRuns(t *testing.T) {
	seen := map[api.Errno]int{}
	for seed := range 40 {
		from := source(seed)
		room := []int{1, 2, 3, 7, 30, 99, 100}[seed%7]
		r := beginRun([]int{0, 1, 5000}[seed%3], room)
		for range 5 {
			for range 1000 {
				r.step(t, &from)
			}
			r.settle(t, &from)
		}
		if len(r.said) < 50 {
			t.Errorf("seed %d: %d texts were said", seed, len(r.said))
		}
		for e, n := range r.seen {
			seen[e] += n
		}
	}
	for _, e := range []api.Errno{api.OK, api.ErrBig, api.ErrFull, api.ErrOld, api.ErrNone} {
		if seen[e] < 1000 {
			t.Errorf("%d calls returned %d", seen[e], e)
		}
	}
}

// TestLongRunsToTheEnd: where the numbers end, all that was said is told all the same.
func TestLongRunsToTheEnd(t *testing.T) {
	for seed := range 30 {
		from := source(seed)
		r := beginRun(lastNumber-1-seed*5, 1+seed*99/29)
		for r.out.Next < lastNumber {
			r.step(t, &from)
		}
		for range 200 {
			r.step(t, &from)
		}
		r.settle(t, &from)
		if !same(r.out, outOf(lastNumber, 1+seed*99/29)) || r.in.Heard != lastNumber {
			t.Fatalf("seed %d: %s, %d", seed, showOut(r.out), r.in.Heard)
		}
		sayFails(t, r.out, "x", api.ErrBig)
	}
}

// TestEachLoss: of eight packets, each set is lost at first, and the others arrive in order or backward; what waits is sent once more, and then all is told.
func TestEachLoss(t *testing.T) {
	for lost := range 1 << 8 {
		for _, backward := range []bool{false, true} {
			r := beginRun(0, 8)
			for i := range 8 {
				r.say(t, string('a'+rune(i)))
			}
			sent := slices.Clone(r.way)
			if backward {
				slices.Reverse(sent)
			}
			for _, p := range sent {
				if lost>>p.Seq&1 == 0 {
					r.hear(t, p)
				}
			}
			r.check(t)
			r.acked(t, r.in.Heard)
			for _, p := range r.out.Wait {
				r.hear(t, p)
			}
			r.acked(t, r.in.Heard)
			if !slices.Equal(r.told, r.said) || !same(r.out, outOf(8, 8)) {
				t.Fatalf("lost %b: %q were told, %s", lost, r.told, showOut(r.out))
			}
		}
	}
}

// TestWrongThingsBetween: calls that return an error leave all as it is, whatever they are given.
func TestWrongThingsBetween(t *testing.T) {
	o, i := outOf(0, 3), party.In{}
	for n := range 200 {
		next, p, e := say(t, o, packet(n).Text)
		if e != api.OK || p != packet(n) {
			t.Fatalf("Say(%s) = %s, %d", showOut(o), showPacket(p), e)
		}
		for _, seq := range append(numbers(), n-1, n+1) {
			if seq != n {
				if got, _, e := hear(t, i, party.Packet{Seq: seq, Text: "wrong"}); got != i || e == api.OK {
					t.Fatalf("Hear(%d, %d) = %d, %d", i.Heard, seq, got.Heard, e)
				}
			}
		}
		for _, heard := range []int{math.MinInt, -1, n + 2, math.MaxInt} {
			ackedFails(t, next, heard)
		}
		sayFails(t, next, bytesOf(501), api.ErrBig)
		got, text, e := hear(t, i, p)
		if text != packet(n).Text || e != api.OK {
			t.Fatalf("Hear(%d, %s) = %s, %d", i.Heard, showPacket(p), showText(text), e)
		}
		i = got
		if o, e = acked(t, next, i.Heard-n%2); e != api.OK || len(o.Wait) != n%2 {
			t.Fatalf("Acked(%s, %d) = %s, %d", showOut(next), i.Heard-n%2, showOut(o), e)
		}
	}
}

// TestAllNumbers: as many texts as may be said, each of them told once.
func TestAllNumbers(t *testing.T) {
	o, i := outOf(0, 2), party.In{}
	for n := range lastNumber {
		next, p, e := party.Say(o, "x")
		heard, text, f := party.Hear(i, p)
		if e != api.OK || f != api.OK || p.Seq != n || text != "x" || heard.Heard != n+1 {
			t.Fatalf("number %d: %d, %d, %s, heard %d", n, e, f, showPacket(p), heard.Heard)
		}
		left, e := party.Acked(next, heard.Heard)
		if e != api.OK || !same(left, outOf(n+1, 2)) {
			t.Fatalf("number %d: %s, %d", n, showOut(left), e)
		}
		o, i = left, heard
	}
	sayFails(t, o, "", api.ErrBig)
}
