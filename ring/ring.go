// Package ring is layer 1, bounded queues of any element type: see shared/doc/01-ring.md.
package ring

import (
	"iter"

	"waystation/api"
)

const maxRoom = 10000

// Ring is a queue of at most room elements. A room of 0 tells a queue that New did not create.
type Ring[T any] struct {
	room  int
	items row[T]
}

// row is elements in order.
type row[T any] []T

// New returns an empty queue, or nil if room is not in the range 1 to 10000.
func New[T any](room int) *Ring[T] {
	if room < 1 || room > maxRoom {
		return nil
	}
	// Space is taken as elements come: room of them at once may be more than there is, if T is large.
	return &Ring[T]{room: room}
}

// Push appends x.
func (r *Ring[T]) Push(x T) api.Errno {
	if !r.created() {
		return api.ErrNil
	}
	if len(r.items) == r.room {
		return api.ErrFull
	}
	r.items = append(r.items, x)
	return api.OK
}

// Pop removes the first element and returns it.
func (r *Ring[T]) Pop() (T, api.Errno) {
	x, e := r.At(0)
	if e != api.OK {
		return x, e
	}
	// The slot is emptied because the memory behind it lives on: it must not keep what the caller took.
	clear(r.items[:1])
	r.items = r.items[1:]
	return x, api.OK
}

// At returns the element with index i.
func (r *Ring[T]) At(i int) (T, api.Errno) {
	if e := r.find(i); e != api.OK {
		var none T
		return none, e
	}
	return r.items[i], api.OK
}

// Drop removes the element with index i.
func (r *Ring[T]) Drop(i int) api.Errno {
	if e := r.find(i); e != api.OK {
		return e
	}
	last := len(r.items) - 1
	copy(r.items[i:], r.items[i+1:])
	clear(r.items[last:])
	r.items = r.items[:last]
	return api.OK
}

// Len returns the number of elements.
func (r *Ring[T]) Len() int {
	if !r.created() {
		return 0
	}
	return len(r.items)
}

// All returns an iterator over the elements that the queue has now, in order.
func (r *Ring[T]) All() iter.Seq[T] {
	// A copy, because the queue may change before and while the iterator is gone through.
	var now row[T]
	if r.created() {
		for x := range r.items.each {
			now = append(now, x)
		}
	}
	return now.each
}

func (l row[T]) each(yield func(T) bool) {
	for _, x := range l {
		if !yield(x) {
			return
		}
	}
}

func (r *Ring[T]) created() bool {
	return r != nil && r.room > 0
}

// find returns the error of asking for the element with index i.
func (r *Ring[T]) find(i int) api.Errno {
	if !r.created() {
		return api.ErrNil
	}
	if i < 0 || i >= len(r.items) {
		return api.ErrNone
	}
	return api.OK
}
