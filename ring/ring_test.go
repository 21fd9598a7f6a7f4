package ring_test

import (
	"iter"
	"math"
	"runtime"
	"slices"
	"testing"
	"weak"

	"waystation/api"
	"waystation/ring"
)

// filled returns a queue of that room with the elements given.
func filled(t *testing.T, room int, elements ...int) *ring.Ring[int] {
	t.Helper()
	r := ring.New[int](room)
	if r == nil {
		t.Fatalf("New(%d) = nil", room)
	}
	for _, x := range elements {
		if e := r.Push(x); e != api.OK {
			t.Fatalf("Push(%d) = %d", x, e)
		}
	}
	return r
}

// holds checks what the queue has, by each of the calls that tell it.
func holds(t *testing.T, r *ring.Ring[int], want ...int) {
	t.Helper()
	if n := r.Len(); n != len(want) {
		t.Errorf("Len() = %d, want %d", n, len(want))
	}
	if l := slices.Collect(r.All()); !slices.Equal(l, want) {
		t.Errorf("All() has %v, want %v", l, want)
	}
	for i, x := range want {
		if y, e := r.At(i); y != x || e != api.OK {
			t.Errorf("At(%d) = %d, %d, want %d, OK", i, y, e, x)
		}
	}
}

// notCreated are the queues that New did not create.
func notCreated() map[string]*ring.Ring[int] {
	return map[string]*ring.Ring[int]{
		"nil":            nil,
		"zero value":     {},
		"refused by New": ring.New[int](0),
	}
}

// P1.1

func TestNewRoom(t *testing.T) {
	for _, room := range []int{1, 2, 9999, 10000} {
		r := ring.New[int](room)
		if r == nil {
			t.Errorf("New(%d) = nil", room)
			continue
		}
		holds(t, r)
	}
	for _, room := range []int{0, -1, 10001, 10002, math.MinInt, math.MaxInt} {
		if ring.New[int](room) != nil {
			t.Errorf("New(%d) is not nil", room)
		}
	}
}

func TestNewOfLargeElements(t *testing.T) {
	type large [1 << 24]byte
	if r := ring.New[large](10000); r == nil || r.Len() != 0 {
		t.Error("New of a large element type")
	}
}

func TestNewQueuesAreApart(t *testing.T) {
	a, b := filled(t, 2, 1), filled(t, 2)
	holds(t, a, 1)
	holds(t, b)
	b.Push(2)
	a.Pop()
	holds(t, a)
	holds(t, b, 2)
}

func TestLen(t *testing.T) {
	r := filled(t, 3)
	for i, step := range []struct {
		do   func()
		want int
	}{
		{func() { r.Push(1) }, 1},
		{func() { r.Push(2) }, 2},
		{func() { r.Push(3) }, 3},
		{func() { r.Push(4) }, 3},
		{func() { r.At(0) }, 3},
		{func() { r.Drop(1) }, 2},
		{func() { r.Drop(2) }, 2},
		{func() { r.Pop() }, 1},
		{func() { r.Pop() }, 0},
		{func() { r.Pop() }, 0},
	} {
		step.do()
		if n := r.Len(); n != step.want {
			t.Errorf("step %d: Len() = %d, want %d", i, n, step.want)
		}
	}
	for name, r := range notCreated() {
		if n := r.Len(); n != 0 {
			t.Errorf("%s: Len() = %d", name, n)
		}
	}
}

// P1.2

func TestPushUntilFull(t *testing.T) {
	for _, room := range []int{1, 2, 3, 1000, 10000} {
		r := filled(t, room)
		var want []int
		for i := range room {
			if e := r.Push(i); e != api.OK {
				t.Fatalf("room %d: Push number %d = %d", room, i, e)
			}
			want = append(want, i)
		}
		for range 2 {
			if e := r.Push(-1); e != api.ErrFull {
				t.Errorf("room %d: Push to a full queue = %d", room, e)
			}
		}
		holds(t, r, want...)
	}
}

func TestRoomComesBack(t *testing.T) {
	r := filled(t, 2, 1, 2)
	r.Pop()
	if e := r.Push(3); e != api.OK {
		t.Errorf("Push after Pop = %d", e)
	}
	if e := r.Push(4); e != api.ErrFull {
		t.Errorf("Push to a full queue = %d", e)
	}
	r.Drop(1)
	if e := r.Push(5); e != api.OK {
		t.Errorf("Push after Drop = %d", e)
	}
	holds(t, r, 2, 5)
}

func TestPopOfNone(t *testing.T) {
	r := filled(t, 2)
	for range 2 {
		if x, e := r.Pop(); x != 0 || e != api.ErrNone {
			t.Errorf("Pop of an empty queue = %d, %d", x, e)
		}
		r.Push(7)
		if x, e := r.Pop(); x != 7 || e != api.OK {
			t.Errorf("Pop = %d, %d, want 7, OK", x, e)
		}
	}
}

func TestPushPopNotCreated(t *testing.T) {
	for name, r := range notCreated() {
		if e := r.Push(1); e != api.ErrNil {
			t.Errorf("%s: Push = %d", name, e)
		}
		if x, e := r.Pop(); x != 0 || e != api.ErrNil {
			t.Errorf("%s: Pop = %d, %d", name, x, e)
		}
		if n := r.Len(); n != 0 {
			t.Errorf("%s: Len() = %d after Push", name, n)
		}
	}
}

func TestPopGivesTheElementItself(t *testing.T) {
	r := ring.New[*int](1)
	x := 5
	r.Push(&x)
	if y, e := r.Pop(); y != &x || e != api.OK {
		t.Errorf("Pop = %p, %d, want %p, OK", y, e, &x)
	}
}

// P1.3

func TestAtAndDropOfNone(t *testing.T) {
	for n := range 4 {
		r := filled(t, 4, []int{1, 2, 3}[:n]...)
		for _, i := range []int{-1, -2, n, n + 1, 4, 10000, math.MinInt, math.MaxInt} {
			if i >= 0 && i < n {
				continue
			}
			if x, e := r.At(i); x != 0 || e != api.ErrNone {
				t.Errorf("%d elements: At(%d) = %d, %d", n, i, x, e)
			}
			if e := r.Drop(i); e != api.ErrNone {
				t.Errorf("%d elements: Drop(%d) = %d", n, i, e)
			}
		}
		holds(t, r, []int{1, 2, 3}[:n]...)
	}
}

func TestAtAfterPop(t *testing.T) {
	r := filled(t, 3, 1, 2, 3)
	r.Pop()
	holds(t, r, 2, 3)
	if x, e := r.At(2); x != 0 || e != api.ErrNone {
		t.Errorf("At behind the last = %d, %d", x, e)
	}
}

func TestDrop(t *testing.T) {
	for i, want := range [][]int{{2, 3, 4}, {1, 3, 4}, {1, 2, 4}, {1, 2, 3}} {
		r := filled(t, 4, 1, 2, 3, 4)
		if e := r.Drop(i); e != api.OK {
			t.Errorf("Drop(%d) = %d", i, e)
		}
		holds(t, r, want...)
		if e := r.Drop(3); e != api.ErrNone {
			t.Errorf("Drop(3) of three = %d", e)
		}
	}
	r := filled(t, 1, 1)
	if e := r.Drop(0); e != api.OK {
		t.Errorf("Drop of the only one = %d", e)
	}
	holds(t, r)
}

func TestAtDropNotCreated(t *testing.T) {
	for name, r := range notCreated() {
		for _, i := range []int{-1, 0, 1} {
			if x, e := r.At(i); x != 0 || e != api.ErrNil {
				t.Errorf("%s: At(%d) = %d, %d", name, i, x, e)
			}
			if e := r.Drop(i); e != api.ErrNil {
				t.Errorf("%s: Drop(%d) = %d", name, i, e)
			}
		}
	}
}

// P1.4

func TestAllNotCreated(t *testing.T) {
	for name, r := range notCreated() {
		all := r.All()
		if all == nil {
			t.Errorf("%s: All() is nil", name)
			continue
		}
		for x := range all {
			t.Errorf("%s: All() has %d", name, x)
		}
	}
}

func TestAllStops(t *testing.T) {
	r := filled(t, 4, 1, 2, 3, 4)
	for n := 1; n <= 4; n++ {
		var got []int
		r.All()(func(x int) bool {
			got = append(got, x)
			return len(got) < n
		})
		if want := []int{1, 2, 3, 4}[:n]; !slices.Equal(got, want) {
			t.Errorf("stopped after %d: %v", n, got)
		}
	}
}

func TestAllMayBeGoneThroughAgain(t *testing.T) {
	r := filled(t, 3, 1, 2, 3)
	all := r.All()
	for range all {
		break
	}
	for range 2 {
		if l := slices.Collect(all); !slices.Equal(l, []int{1, 2, 3}) {
			t.Errorf("All() has %v", l)
		}
	}
	holds(t, r, 1, 2, 3)
}

func changes() map[string]func(r *ring.Ring[int]) {
	return map[string]func(r *ring.Ring[int]){
		"Push":       func(r *ring.Ring[int]) { r.Push(9) },
		"Pop":        func(r *ring.Ring[int]) { r.Pop() },
		"Drop first": func(r *ring.Ring[int]) { r.Drop(0) },
		"Drop last":  func(r *ring.Ring[int]) { r.Drop(r.Len() - 1) },
		"Pop, Push":  func(r *ring.Ring[int]) { r.Pop(); r.Push(9) },
		"Drop, Push": func(r *ring.Ring[int]) { r.Drop(1); r.Push(9) },
		"Pop all, Push": func(r *ring.Ring[int]) {
			for r.Len() > 0 {
				r.Pop()
			}
			r.Push(9)
		},
	}
}

func TestChangesWhileAllIsGoneThrough(t *testing.T) {
	want := []int{1, 2, 3, 4}
	for name, change := range changes() {
		r := filled(t, 6, want...)
		var got []int
		for x := range r.All() {
			got = append(got, x)
			change(r)
		}
		if !slices.Equal(got, want) {
			t.Errorf("%s: All() has %v", name, got)
		}
	}
}

func TestChangesAfterAllIsCalled(t *testing.T) {
	want := []int{1, 2, 3, 4}
	for name, change := range changes() {
		r := filled(t, 6, want...)
		all := r.All()
		change(r)
		if got := slices.Collect(all); !slices.Equal(got, want) {
			t.Errorf("%s: All() has %v", name, got)
		}
	}
	r := filled(t, 2)
	var none iter.Seq[int] = r.All()
	r.Push(1)
	if got := slices.Collect(none); len(got) != 0 {
		t.Errorf("All() of an empty queue has %v", got)
	}
}

// P1.5

func TestRow(t *testing.T) {
	for _, room := range []int{1, 2, 7, 10000} {
		r := filled(t, room)
		in, out := 0, 0
		for range 3 {
			for r.Push(in) == api.OK {
				in++
			}
			for range room/2 + 1 {
				if x, e := r.Pop(); x != out || e != api.OK {
					t.Fatalf("room %d: Pop = %d, %d, want %d, OK", room, x, e, out)
				}
				out++
			}
		}
		for x, e := r.Pop(); e == api.OK; x, e = r.Pop() {
			if x != out {
				t.Fatalf("room %d: Pop = %d, want %d", room, x, out)
			}
			out++
		}
		if in != out {
			t.Errorf("room %d: %d pushed, %d popped", room, in, out)
		}
	}
}

// TestNothingIsKept: what a queue gave away, it does not hold on to in memory.
func TestNothingIsKept(t *testing.T) {
	r := ring.New[*[100]int](3)
	var gone [3]weak.Pointer[[100]int]
	for i := range gone {
		x := new([100]int)
		gone[i] = weak.Make(x)
		r.Push(x)
	}
	r.Pop()
	r.Drop(1)
	runtime.GC()
	for i, want := range []bool{false, true, false} {
		if kept := gone[i].Value() != nil; kept != want {
			t.Errorf("element %d is kept: %t, want %t", i, kept, want)
		}
	}
	if n := r.Len(); n != 1 {
		t.Errorf("Len() = %d, want 1", n)
	}
	runtime.KeepAlive(r)
}

// TestAgainstList does a long mixed run of all calls and holds each answer against that of a plain list.
func TestAgainstList(t *testing.T) {
	for room := 1; room <= 9; room++ {
		r := filled(t, room)
		var list []int
		seed := uint32(room)
		for step := range 2000 {
			seed = seed*1664525 + 1013904223
			i := int(seed>>8%uint32(room+2)) - 1
			switch seed >> 28 % 4 {
			case 0, 1:
				want := api.ErrFull
				if len(list) < room {
					want, list = api.OK, append(list, step)
				}
				if e := r.Push(step); e != want {
					t.Fatalf("room %d, step %d: Push = %d, want %d", room, step, e, want)
				}
			case 2:
				want, first := api.ErrNone, 0
				if len(list) > 0 {
					want, first, list = api.OK, list[0], list[1:]
				}
				if x, e := r.Pop(); x != first || e != want {
					t.Fatalf("room %d, step %d: Pop = %d, %d, want %d, %d", room, step, x, e, first, want)
				}
			case 3:
				want := api.ErrNone
				if i >= 0 && i < len(list) {
					want, list = api.OK, slices.Delete(slices.Clone(list), i, i+1)
				}
				if e := r.Drop(i); e != want {
					t.Fatalf("room %d, step %d: Drop(%d) = %d, want %d", room, step, i, e, want)
				}
			}
			holds(t, r, list...)
		}
	}
}

func TestExample(t *testing.T) {
	r := ring.New[int](2)
	for i, want := range []api.Errno{api.OK, api.OK, api.ErrFull} {
		if e := r.Push(5 + i); e != want {
			t.Errorf("Push(%d) = %d, want %d", 5+i, e, want)
		}
	}
	if x, e := r.Pop(); x != 5 || e != api.OK {
		t.Errorf("Pop = %d, %d, want 5, OK", x, e)
	}
}
