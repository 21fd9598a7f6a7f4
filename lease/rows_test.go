package lease_test

import (
	"fmt"
	"maps"
	"math"
	"strings"
	"testing"

	"waystation/api"
	"waystation/lease"
)

// P11.4

// call is one of Take or Give.
type call struct {
	give  bool
	epoch int
	to    uint8
}

func take(epoch int) call { return call{epoch: epoch} }

func give(to uint8) call { return call{give: true, to: to} }

func (c call) String() string {
	if c.give {
		return fmt.Sprintf("Give %d", c.to)
	}
	return fmt.Sprintf("Take %d", c.epoch)
}

func (c call) on(l lease.Lease) (lease.Lease, api.Errno) {
	if c.give {
		return lease.Give(l, c.to)
	}
	return lease.Take(l, c.epoch)
}

// station is a lease, and what was seen of it.
type station struct {
	lease.Lease
	calls  []string
	became map[int]int // how often it became the agent, by epochs
	gave   map[int]int // how often it gave the agency away, by epochs
}

// begin is a station with a lease; how it came to that counts as seen.
func begin(l lease.Lease) *station {
	s := &station{l, []string{fmt.Sprint(l)}, map[int]int{}, map[int]int{}}
	if l.State != lease.Idle {
		s.became[l.Epoch]++
	}
	if l.State == lease.Gone {
		s.gave[l.Epoch]++
	}
	return s
}

func (s *station) clone() *station {
	return &station{s.Lease, s.calls[:len(s.calls):len(s.calls)], maps.Clone(s.became), maps.Clone(s.gave)}
}

func (s *station) row() string { return strings.Join(s.calls, ", ") }

// do makes a call, and checks what P11.4 says of the row so far.
func (s *station) do(t *testing.T, c call) api.Errno {
	t.Helper()
	next, e := c.on(s.Lease)
	s.calls = append(s.calls, c.String())
	if len(s.calls) > 40 {
		s.calls = append([]string{s.calls[0], ".."}, s.calls[len(s.calls)-20:]...)
	}
	switch {
	case !lease.Right(next):
		t.Fatalf("%s: %v is not valid", s.row(), next)
	case next.Epoch < s.Epoch:
		t.Fatalf("%s: the epoch went from %d back to %d", s.row(), s.Epoch, next.Epoch)
	case e != api.OK && next != s.Lease:
		t.Fatalf("%s: %v became %v with the error %d", s.row(), s.Lease, next, e)
	case e == api.OK && next == s.Lease:
		t.Fatalf("%s: %v stayed as it was, without an error", s.row(), next)
	case e == api.OK && c.give && (next.State != lease.Gone || s.State != lease.Held):
		t.Fatalf("%s: %v became %v", s.row(), s.Lease, next)
	case e == api.OK && !c.give && (next.State != lease.Held || next.Epoch != c.epoch):
		t.Fatalf("%s: %v became %v", s.row(), s.Lease, next)
	}
	s.Lease = next
	if e == api.OK && c.give {
		s.gave[next.Epoch]++
	} else if e == api.OK {
		s.became[next.Epoch]++
	}
	s.once(t)
	return e
}

// once checks that the station is the agent at most once in its epoch, and never again after it gave the agency away; the others were checked when they were its own.
func (s *station) once(t *testing.T) {
	t.Helper()
	if s.became[s.Epoch] > 1 || s.gave[s.Epoch] > 1 {
		t.Fatalf("%s: in epoch %d it became the agent %d times, and gave the agency away %d times", s.row(), s.Epoch, s.became[s.Epoch], s.gave[s.Epoch])
	}
	for epoch := range s.gave {
		if lease.Speaks(s.Lease, epoch) {
			t.Fatalf("%s: it speaks in epoch %d, after it gave the agency away", s.row(), epoch)
		}
	}
	if lease.Speaks(s.Lease, s.Epoch) != (s.State == lease.Held) {
		t.Fatalf("%s: it is %v, and the other way when it is asked", s.row(), s.Lease)
	}
}

// again takes the lease through its bytes, as a station that crashes.
func (s *station) again(t *testing.T) {
	t.Helper()
	b, e := lease.Encode(s.Lease)
	back, e2 := lease.Decode(b)
	if e != api.OK || e2 != api.OK || back != s.Lease {
		t.Fatalf("%s: %v came back from its bytes as %v, %d, %d", s.row(), s.Lease, back, e, e2)
	}
	s.Lease = back
}

// calls are those of a few epochs and stations, with ones that may not be among them.
func calls() []call {
	return []call{take(0), take(1), take(2), take(3), take(last), take(last + 1), give(0), give(7), give(8)}
}

func everyRow(t *testing.T, s *station, left int) int {
	t.Helper()
	if left == 0 {
		return 1
	}
	n := 0
	for _, c := range calls() {
		next := s.clone()
		next.do(t, c)
		next.again(t)
		n += everyRow(t, next, left-1)
	}
	return n
}

func TestEveryRow(t *testing.T) {
	if n := everyRow(t, begin(lease.Lease{}), 5); n != 9*9*9*9*9 {
		t.Errorf("%d rows", n)
	}
	for _, l := range validLeases() {
		everyRow(t, begin(l), 2)
	}
}

// TestRowThroughEpochs: the agency comes and goes, and what was is over for good.
func TestRowThroughEpochs(t *testing.T) {
	s := begin(lease.Lease{})
	for epoch := 2; epoch < 200; epoch += 3 {
		for _, x := range []struct {
			call call
			want api.Errno
		}{
			{give(5), api.ErrNone},
			{take(epoch), api.OK},
			{take(epoch), api.ErrHave},
			{take(epoch - 1), api.ErrOld},
			{take(epoch + 1), api.OK},
			{take(epoch), api.ErrOld},
			{give(5), api.OK},
			{give(5), api.ErrNone},
			{give(6), api.ErrNone},
			{take(epoch + 1), api.ErrOld},
			{take(epoch), api.ErrOld},
			{take(1), api.ErrOld},
		} {
			if e := s.do(t, x.call); e != x.want {
				t.Fatalf("%s = %d, want %d", s.row(), e, x.want)
			}
			s.again(t)
		}
		if s.Lease != gone(epoch+1, 5) {
			t.Fatalf("%s: %v", s.row(), s.Lease)
		}
	}
}

// TestRowToTheEnd: in the last epoch the agency can be taken, and neither be given away nor be taken again.
func TestRowToTheEnd(t *testing.T) {
	for _, l := range []lease.Lease{{}, held(1), held(last - 1), gone(last-1, 7)} {
		s := begin(l)
		if e := s.do(t, take(last)); e != api.OK {
			t.Fatalf("%s = %d", s.row(), e)
		}
		for to := range 256 {
			want := api.ErrBig
			if to > 7 {
				want = api.ErrArg
			}
			if e := s.do(t, give(uint8(to))); e != want {
				t.Fatalf("%s = %d, want %d", s.row(), e, want)
			}
		}
		for _, epoch := range epochs() {
			if e := s.do(t, take(epoch)); e == api.OK || s.Lease != held(last) {
				t.Fatalf("%s = %d", s.row(), e)
			}
		}
	}
}

// source makes numbers that are the same in each run.
type source uint64

func (s *source) next(below int) int {
	*s = *s*6364136223846793005 + 1442695040888963407
	return int(uint64(*s) >> 33 % uint64(below))
}

// call is one near the epoch of a lease for the most part, and any at times.
func (s *source) call(l lease.Lease) call {
	switch s.next(10) {
	case 0:
		return give(uint8(s.next(256)))
	case 1, 2, 3:
		return give(uint8(s.next(8)))
	case 4:
		wrong := []int{math.MinInt, -1, 0, last + 1, math.MaxInt}
		return take(wrong[s.next(len(wrong))])
	}
	return take(l.Epoch - 3 + s.next(7))
}

func TestLongRows(t *testing.T) {
	from := source(1)
	for _, l := range []lease.Lease{{}, held(1), gone(5, 7), held(last - 3000), gone(last-10, 0)} {
		s := begin(l)
		seen := map[api.Errno]int{}
		for range 3000 {
			c := from.call(s.Lease)
			want, wantErr := plainCall(s.Lease, c)
			e := s.do(t, c)
			if s.Lease != want || e != wantErr {
				t.Fatalf("%s = %v, %d, want %v, %d", s.row(), s.Lease, e, want, wantErr)
			}
			seen[e]++
			s.again(t)
		}
		for _, e := range []api.Errno{api.OK, api.ErrArg, api.ErrHave, api.ErrOld} {
			if seen[e] == 0 {
				t.Errorf("from %v on, no call returned %d", l, e)
			}
		}
	}
}

func plainCall(l lease.Lease, c call) (lease.Lease, api.Errno) {
	if c.give {
		return plainGive(l, c.to)
	}
	return plainTake(l, c.epoch)
}
