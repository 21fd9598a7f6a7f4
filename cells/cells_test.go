package cells_test

import (
	"cmp"
	"iter"
	"maps"
	"math"
	"runtime"
	"slices"
	"testing"
	"weak"

	"waystation/api"
	"waystation/cells"
)

type pair[K cmp.Ordered, V any] struct {
	key   K
	value V
}

// collect returns what an iterator yields, in its order.
func collect[K cmp.Ordered, V any](all iter.Seq2[K, V]) []pair[K, V] {
	var l []pair[K, V]
	for k, v := range all {
		l = append(l, pair[K, V]{k, v})
	}
	return l
}

// inOrder returns what a map of Go has, by increasing keys.
func inOrder[K cmp.Ordered, V any](m map[K]V) []pair[K, V] {
	var l []pair[K, V]
	for _, k := range slices.Sorted(maps.Keys(m)) {
		l = append(l, pair[K, V]{k, m[k]})
	}
	return l
}

type contents = map[int]string

func empty(t *testing.T, room int) *cells.Cells[int, string] {
	t.Helper()
	c := cells.New[int, string](room)
	if c == nil {
		t.Fatalf("New(%d) = nil", room)
	}
	return c
}

// filled returns a map of that room with the contents given.
func filled(t *testing.T, room int, m contents) *cells.Cells[int, string] {
	t.Helper()
	c := empty(t, room)
	for k, v := range m {
		is(t, "Set", c.Set(k, v), api.OK)
	}
	return c
}

func is(t *testing.T, call string, got, want api.Errno) {
	t.Helper()
	if got != want {
		t.Errorf("%s = %d, want %d", call, got, want)
	}
}

// holds checks what a map has, by each of the calls that tell it.
func holds(t *testing.T, c *cells.Cells[int, string], want contents) {
	t.Helper()
	if n := c.Len(); n != len(want) {
		t.Errorf("Len() = %d, want %d", n, len(want))
	}
	if l := collect(c.All()); !slices.Equal(l, inOrder(want)) {
		t.Errorf("All() has %v, want %v", l, inOrder(want))
	}
	for k := -1; k <= 10; k++ {
		e := api.ErrNone
		if _, present := want[k]; present {
			e = api.OK
		}
		gives(t, c, k, want[k], e)
	}
}

// gives checks Get of one key.
func gives(t *testing.T, c *cells.Cells[int, string], k int, v string, e api.Errno) {
	t.Helper()
	if x, f := c.Get(k); x != v || f != e {
		t.Errorf("Get(%d) = %q, %d, want %q, %d", k, x, f, v, e)
	}
}

// notCreated are the maps that New did not create.
func notCreated() map[string]*cells.Cells[int, string] {
	return map[string]*cells.Cells[int, string]{
		"nil":            nil,
		"zero value":     {},
		"refused by New": cells.New[int, string](0),
	}
}

// P5.1

func TestNewRoom(t *testing.T) {
	for _, room := range []int{1, 2, 9999, 10000} {
		holds(t, empty(t, room), nil)
	}
	for _, room := range []int{0, -1, -10000, 10001, 10002, math.MinInt, math.MaxInt} {
		if cells.New[int, string](room) != nil {
			t.Errorf("New(%d) is not nil", room)
		}
	}
}

func TestNewOfLargeValues(t *testing.T) {
	type large [1 << 24]byte
	if c := cells.New[int, large](10000); c == nil || c.Len() != 0 {
		t.Error("New of a large value type")
	}
}

func TestNewMapsAreApart(t *testing.T) {
	a, b := filled(t, 2, contents{1: "a"}), empty(t, 2)
	b.Set(2, "b")
	b.Sync()
	holds(t, a, contents{1: "a"})
	a.Crash()
	holds(t, a, nil)
	holds(t, b, contents{2: "b"})
}

func TestLen(t *testing.T) {
	c := empty(t, 2)
	for i, step := range []struct {
		do   func()
		want int
	}{
		{func() { c.Set(1, "a") }, 1},
		{func() { c.Set(1, "b") }, 1},
		{func() { c.Set(0, "") }, 2},
		{func() { c.Set(3, "c") }, 2},
		{func() { c.Get(3) }, 2},
		{func() { c.Drop(3) }, 2},
		{func() { c.Sync() }, 2},
		{func() { c.Drop(0) }, 1},
		{func() { c.Drop(1) }, 0},
		{func() { c.Drop(1) }, 0},
		{func() { c.Crash() }, 2},
	} {
		step.do()
		if n := c.Len(); n != step.want {
			t.Errorf("step %d: Len() = %d, want %d", i, n, step.want)
		}
	}
}

// P5.2

func TestSetUntilFull(t *testing.T) {
	for _, room := range []int{1, 2, 3, 1000, 10000} {
		c := empty(t, room)
		for k := range room {
			if e := c.Set(k, "a"); e != api.OK {
				t.Fatalf("room %d: Set(%d) = %d", room, k, e)
			}
		}
		for range 2 {
			is(t, "Set of a new key where there is no room", c.Set(room, "b"), api.ErrFull)
			is(t, "Set of another one", c.Set(-1, "b"), api.ErrFull)
		}
		gives(t, c, room, "", api.ErrNone)
		gives(t, c, -1, "", api.ErrNone)
		for _, k := range []int{0, room / 2, room - 1} {
			is(t, "Set of a key that is present in a full map", c.Set(k, "c"), api.OK)
			gives(t, c, k, "c", api.OK)
		}
		if n := c.Len(); n != room {
			t.Errorf("room %d: Len() = %d", room, n)
		}
	}
}

func TestSetChangesOneValue(t *testing.T) {
	c := filled(t, 3, contents{1: "a", 2: "b", 3: "c"})
	is(t, "Set", c.Set(2, "x"), api.OK)
	holds(t, c, contents{1: "a", 2: "x", 3: "c"})
	is(t, "Set of a zero value", c.Set(2, ""), api.OK)
	holds(t, c, contents{1: "a", 2: "", 3: "c"})
}

func TestRoomComesBack(t *testing.T) {
	c := filled(t, 2, contents{1: "a", 2: "b"})
	is(t, "Drop", c.Drop(1), api.OK)
	is(t, "Set after Drop", c.Set(3, "c"), api.OK)
	is(t, "Set of a key that was dropped", c.Set(1, "a"), api.ErrFull)
	holds(t, c, contents{2: "b", 3: "c"})
}

func TestGetAndDropOfNone(t *testing.T) {
	for _, m := range []contents{nil, {1: "a"}, {1: "a", 3: "b"}} {
		c := filled(t, 2, m)
		for _, k := range []int{-1, 0, 2, 4, math.MinInt, math.MaxInt} {
			gives(t, c, k, "", api.ErrNone)
			is(t, "Drop of none", c.Drop(k), api.ErrNone)
		}
		holds(t, c, m)
	}
}

func TestGetAndDropOfDropped(t *testing.T) {
	c := filled(t, 3, contents{1: "a", 2: "b", 3: "c"})
	is(t, "Drop", c.Drop(2), api.OK)
	holds(t, c, contents{1: "a", 3: "c"})
	is(t, "Drop of one that was dropped", c.Drop(2), api.ErrNone)
	is(t, "Set again", c.Set(2, "d"), api.OK)
	holds(t, c, contents{1: "a", 2: "d", 3: "c"})
	is(t, "Drop of one that was set again", c.Drop(2), api.OK)
	holds(t, c, contents{1: "a", 3: "c"})
}

func TestZeroKeyAndValue(t *testing.T) {
	c := empty(t, 1)
	gives(t, c, 0, "", api.ErrNone)
	is(t, "Set(0)", c.Set(0, ""), api.OK)
	holds(t, c, contents{0: ""})
	is(t, "Drop(0)", c.Drop(0), api.OK)
	holds(t, c, nil)
}

func TestGetGivesTheValueItself(t *testing.T) {
	c := cells.New[int, *int](1)
	x := 5
	c.Set(1, &x)
	c.Sync()
	for range 2 {
		if y, e := c.Get(1); y != &x || e != api.OK {
			t.Errorf("Get(1) = %p, %d, want %p, OK", y, e, &x)
		}
		c.Crash()
	}
}

// TestNotCreated: where a key is not present as well, ErrNil is the error that the chapter names first.
func TestNotCreated(t *testing.T) {
	for name, c := range notCreated() {
		for range 2 {
			is(t, name+": Set", c.Set(1, "a"), api.ErrNil)
			gives(t, c, 1, "", api.ErrNil)
			is(t, name+": Drop", c.Drop(1), api.ErrNil)
			is(t, name+": Sync", c.Sync(), api.ErrNil)
			is(t, name+": Crash", c.Crash(), api.ErrNil)
			if n := c.Len(); n != 0 {
				t.Errorf("%s: Len() = %d", name, n)
			}
			all := c.All()
			if all == nil {
				t.Errorf("%s: All() is nil", name)
				continue
			}
			for k, v := range all {
				t.Errorf("%s: All() has %d %q", name, k, v)
			}
		}
	}
}

// P5.3

func TestCrashWithoutSync(t *testing.T) {
	c := empty(t, 3)
	is(t, "Crash of a new map", c.Crash(), api.OK)
	holds(t, c, nil)
	c.Set(1, "a")
	c.Set(2, "b")
	c.Drop(1)
	is(t, "Crash", c.Crash(), api.OK)
	holds(t, c, nil)
	is(t, "Set after Crash", c.Set(3, "c"), api.OK)
	holds(t, c, contents{3: "c"})
}

func TestSyncLeavesTheContents(t *testing.T) {
	m := contents{1: "a", 2: "b"}
	c := filled(t, 3, m)
	for range 2 {
		is(t, "Sync", c.Sync(), api.OK)
		holds(t, c, m)
	}
}

func TestSyncOfNoKeys(t *testing.T) {
	c := empty(t, 3)
	is(t, "Sync of a new map", c.Sync(), api.OK)
	c.Set(1, "a")
	c.Crash()
	holds(t, c, nil)

	c = filled(t, 3, contents{1: "a", 2: "b"})
	c.Sync()
	c.Drop(1)
	c.Drop(2)
	is(t, "Sync after the last key was dropped", c.Sync(), api.OK)
	c.Set(3, "c")
	is(t, "Crash", c.Crash(), api.OK)
	holds(t, c, nil)
}

func TestCrashUndoes(t *testing.T) {
	m := contents{1: "a", 2: "b", 3: "c"}
	for name, change := range changes() {
		c := filled(t, 5, m)
		c.Sync()
		change(c)
		is(t, name+": Crash", c.Crash(), api.OK)
		holds(t, c, m)
	}
}

func TestCrashesInARow(t *testing.T) {
	m := contents{1: "a", 2: "b", 3: "c"}
	for name, change := range changes() {
		c := filled(t, 5, m)
		c.Sync()
		for range 3 {
			is(t, name+": Crash", c.Crash(), api.OK)
			is(t, name+": Crash again", c.Crash(), api.OK)
			holds(t, c, m)
			change(c)
		}
	}
}

func TestSyncAfterSync(t *testing.T) {
	c := filled(t, 3, contents{1: "a", 2: "b"})
	c.Sync()
	c.Set(1, "x")
	c.Drop(2)
	c.Set(3, "c")
	c.Sync()
	c.Set(1, "y")
	c.Crash()
	holds(t, c, contents{1: "x", 3: "c"})
}

func TestSyncAfterCrash(t *testing.T) {
	c := filled(t, 3, contents{1: "a"})
	c.Sync()
	c.Set(1, "x")
	c.Crash()
	is(t, "Sync", c.Sync(), api.OK)
	c.Drop(1)
	c.Crash()
	holds(t, c, contents{1: "a"})
}

func TestCrashBringsDroppedKeysBackToAFullMap(t *testing.T) {
	m := contents{1: "a", 2: "b"}
	c := filled(t, 2, m)
	c.Sync()
	c.Drop(1)
	c.Drop(2)
	is(t, "Set in the room of a dropped key", c.Set(3, "c"), api.OK)
	is(t, "Set in the room of the other one", c.Set(4, "d"), api.OK)
	is(t, "Crash", c.Crash(), api.OK)
	holds(t, c, m)
	is(t, "Set of a key that the crash undid", c.Set(3, "c"), api.ErrFull)
	is(t, "Set of a key that is back", c.Set(1, "x"), api.OK)
	is(t, "Drop of a key that is back", c.Drop(2), api.OK)
	is(t, "Set after that", c.Set(3, "c"), api.OK)
	holds(t, c, contents{1: "x", 3: "c"})
}

func TestCrashGivesRoomBack(t *testing.T) {
	c := filled(t, 2, contents{1: "a"})
	c.Sync()
	c.Set(2, "b")
	is(t, "Set", c.Set(3, "c"), api.ErrFull)
	c.Crash()
	is(t, "Set after Crash", c.Set(3, "c"), api.OK)
	holds(t, c, contents{1: "a", 3: "c"})
}

// TestErrorChangesNothing: neither what there is, nor what a crash would bring back.
func TestErrorChangesNothing(t *testing.T) {
	c := filled(t, 2, contents{1: "a", 2: "b"})
	c.Sync()
	c.Drop(2)
	c.Set(3, "c")
	is(t, "Set", c.Set(2, "x"), api.ErrFull)
	is(t, "Set", c.Set(4, "x"), api.ErrFull)
	is(t, "Drop", c.Drop(2), api.ErrNone)
	is(t, "Drop", c.Drop(4), api.ErrNone)
	gives(t, c, 2, "", api.ErrNone)
	holds(t, c, contents{1: "a", 3: "c"})
	c.Crash()
	holds(t, c, contents{1: "a", 2: "b"})
}

// P5.4

func TestAllInOrder(t *testing.T) {
	if l := collect(empty(t, 1).All()); len(l) != 0 {
		t.Errorf("All() of a map without keys has %v", l)
	}
	if l := collect(filled(t, 1, contents{7: "a"}).All()); !slices.Equal(l, []pair[int, string]{{7, "a"}}) {
		t.Errorf("All() of one key has %v", l)
	}
	for _, n := range []int{2, 3, 100, 10000} {
		c := cells.New[int, int](n)
		var want []pair[int, int]
		for i := range n {
			// 7919 is a prime that divides none of these n, so each key comes once, and out of order.
			k := i * 7919 % n
			c.Set(k-n/2, k)
			want = append(want, pair[int, int]{i - n/2, i})
		}
		if !slices.Equal(collect(c.All()), want) {
			t.Errorf("All() of %d keys is not by increasing keys", n)
		}
	}
}

func TestAllStops(t *testing.T) {
	m := contents{1: "a", 2: "b", 3: "c", 4: "d"}
	c := filled(t, 4, m)
	for n := 1; n <= 4; n++ {
		var got []pair[int, string]
		c.All()(func(k int, v string) bool {
			got = append(got, pair[int, string]{k, v})
			return len(got) < n
		})
		if !slices.Equal(got, inOrder(m)[:n]) {
			t.Errorf("stopped after %d: %v", n, got)
		}
	}
	holds(t, c, m)
}

func TestAllMayBeGoneThroughAgain(t *testing.T) {
	m := contents{1: "a", 2: "b", 3: "c"}
	c := filled(t, 3, m)
	all := c.All()
	for range all {
		break
	}
	for range 2 {
		if l := collect(all); !slices.Equal(l, inOrder(m)) {
			t.Errorf("All() has %v", l)
		}
		c.Drop(2)
		c.Set(1, "x")
	}
	for range all {
		n := 0
		for range all {
			n++
		}
		if n != 3 {
			t.Errorf("All() within itself has %d keys", n)
		}
	}
}

// changes are made to maps of room 5 with the keys 1, 2 and 3.
func changes() map[string]func(c *cells.Cells[int, string]) {
	return map[string]func(c *cells.Cells[int, string]){
		"nothing":         func(c *cells.Cells[int, string]) {},
		"Set new":         func(c *cells.Cells[int, string]) { c.Set(0, "x"); c.Set(4, "x") },
		"Set first":       func(c *cells.Cells[int, string]) { c.Set(1, "x") },
		"Set last":        func(c *cells.Cells[int, string]) { c.Set(3, "x") },
		"Drop first":      func(c *cells.Cells[int, string]) { c.Drop(1) },
		"Drop last":       func(c *cells.Cells[int, string]) { c.Drop(3) },
		"Drop, Set":       func(c *cells.Cells[int, string]) { c.Drop(2); c.Set(2, "x") },
		"Drop, Set other": func(c *cells.Cells[int, string]) { c.Drop(2); c.Set(4, "x") },
		"all of it": func(c *cells.Cells[int, string]) {
			for k := range c.All() {
				c.Drop(k)
			}
			for k := 4; k <= 8; k++ {
				c.Set(k, "x")
			}
		},
	}
}

// changesWithSync are more changes, behind which a crash does not bring back what there was.
func changesWithSync() map[string]func(c *cells.Cells[int, string]) {
	m := changes()
	m["Crash"] = func(c *cells.Cells[int, string]) { c.Crash() }
	m["Set, Sync"] = func(c *cells.Cells[int, string]) { c.Set(3, "x"); c.Sync() }
	m["Drop, Sync, Crash"] = func(c *cells.Cells[int, string]) { c.Drop(3); c.Sync(); c.Crash() }
	m["Crash, Set"] = func(c *cells.Cells[int, string]) { c.Crash(); c.Set(2, "x") }
	return m
}

func TestChangesWhileAllIsGoneThrough(t *testing.T) {
	m := contents{1: "a", 2: "b", 3: "c"}
	for name, change := range changesWithSync() {
		c := filled(t, 5, m)
		var got []pair[int, string]
		for k, v := range c.All() {
			got = append(got, pair[int, string]{k, v})
			change(c)
		}
		if !slices.Equal(got, inOrder(m)) {
			t.Errorf("%s: All() has %v", name, got)
		}
	}
}

func TestChangesAfterAllIsCalled(t *testing.T) {
	m := contents{1: "a", 2: "b", 3: "c"}
	for name, change := range changesWithSync() {
		c := filled(t, 5, m)
		all := c.All()
		change(c)
		if got := collect(all); !slices.Equal(got, inOrder(m)) {
			t.Errorf("%s: All() has %v", name, got)
		}
	}
	c := empty(t, 2)
	none := c.All()
	c.Set(1, "a")
	if got := collect(none); len(got) != 0 {
		t.Errorf("All() of a map without keys has %v", got)
	}
}

// keysInOrder checks all calls with keys of one type, which are given in increasing order.
func keysInOrder[K cmp.Ordered](t *testing.T, keys ...K) {
	t.Helper()
	c := cells.New[K, int](len(keys))
	for i, k := range slices.Backward(keys) {
		if e := c.Set(k, i); e != api.OK {
			t.Errorf("Set(%v) = %d", k, e)
		}
	}
	c.Sync()
	first := keys[0]
	if e := c.Drop(first); e != api.OK {
		t.Errorf("Drop(%v) = %d", first, e)
	}
	if v, e := c.Get(first); v != 0 || e != api.ErrNone {
		t.Errorf("Get(%v) after Drop = %d, %d", first, v, e)
	}
	c.Crash()
	var want []pair[K, int]
	for i, k := range keys {
		want = append(want, pair[K, int]{k, i})
		if v, e := c.Get(k); v != i || e != api.OK {
			t.Errorf("Get(%v) = %d, %d, want %d, OK", k, v, e, i)
		}
	}
	if l := collect(c.All()); !slices.Equal(l, want) {
		t.Errorf("All() has %v, want %v", l, want)
	}
}

func TestKeysOfSeveralTypes(t *testing.T) {
	type name string
	keysInOrder(t, "", "\x00", "A", "B", "a", "a\x00", "aa", "b", "z", "\x7f", "\x80", "ä", "\xff", "\xff\xff")
	keysInOrder(t, name("a"), name("b"))
	keysInOrder(t, math.MinInt64, -1, 0, 1, math.MaxInt64)
	keysInOrder[int8](t, math.MinInt8, -1, 0, math.MaxInt8)
	keysInOrder[uint8](t, 0, 127, 128, 255)
	keysInOrder[uint64](t, 0, math.MaxInt64, math.MaxInt64+1, math.MaxUint64)
	keysInOrder(t, api.OK, api.ErrNil, api.ErrAway)
}

// P5.5

// TestAgainstMaps does a long mixed run of all calls and holds each answer against two plain maps.
func TestAgainstMaps(t *testing.T) {
	for room := 1; room <= 8; room++ {
		c := empty(t, room)
		now, safe := contents{}, contents{}
		seed := uint32(room)
		for step := range 3000 {
			seed = seed*1664525 + 1013904223
			k, v := int(seed>>8%10), string(rune('a'+step%26))
			_, present := now[k]
			switch seed >> 24 % 16 {
			case 0:
				is(t, "Sync", c.Sync(), api.OK)
				safe = maps.Clone(now)
			case 1:
				is(t, "Crash", c.Crash(), api.OK)
				now = maps.Clone(safe)
			case 2, 3, 4, 5, 6:
				want := api.ErrNone
				if present {
					want = api.OK
				}
				is(t, "Drop", c.Drop(k), want)
				delete(now, k)
			default:
				want := api.ErrFull
				if present || len(now) < room {
					want, now[k] = api.OK, v
				}
				is(t, "Set", c.Set(k, v), want)
			}
			holds(t, c, now)
			if t.Failed() {
				t.Fatalf("room %d, step %d", room, step)
			}
		}
	}
}

func TestSafeInAFullMapOfTheGreatestRoom(t *testing.T) {
	const room = 10000
	c := cells.New[int, int](room)
	for k := range room {
		c.Set(k, k)
	}
	for k := 0; k < room; k += 2 {
		c.Drop(k)
	}
	c.Sync()
	for k := range room {
		c.Set(k, -1)
	}
	for k := 1; k < room; k += 3 {
		c.Drop(k)
	}
	for range 2 {
		c.Crash()
		if n := c.Len(); n != room/2 {
			t.Fatalf("Len() = %d, want %d", n, room/2)
		}
		next := 1
		for k, v := range c.All() {
			if k != next || v != k {
				t.Fatalf("All() has %d with %d, want %d", k, v, next)
			}
			next += 2
		}
	}
}

// TestNothingIsKept: what is neither present nor durable, a map does not hold on to in memory.
func TestNothingIsKept(t *testing.T) {
	c := cells.New[int, *[100]int](4)
	var gone [4]weak.Pointer[[100]int]
	for i := range gone {
		x := new([100]int)
		gone[i] = weak.Make(x)
		c.Set(i, x)
	}
	c.Drop(0)
	c.Sync()
	c.Drop(1)
	c.Set(2, nil)
	c.Sync()
	runtime.GC()
	for i, want := range []bool{false, false, false, true} {
		if kept := gone[i].Value() != nil; kept != want {
			t.Errorf("the value of %d is kept: %t, want %t", i, kept, want)
		}
	}
	runtime.KeepAlive(c)
}

func TestExample(t *testing.T) {
	c := empty(t, 1)
	is(t, "Set", c.Set(3, "a"), api.OK)
	is(t, "Sync", c.Sync(), api.OK)
	is(t, "Set", c.Set(3, "b"), api.OK)
	is(t, "Crash", c.Crash(), api.OK)
	gives(t, c, 3, "a", api.OK)
}
