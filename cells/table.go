package cells

import (
	"cmp"
	"slices"
)

// table is values by keys.
type table[K cmp.Ordered, V any] map[K]V

// cell is a key with its value.
type cell[K cmp.Ordered, V any] struct {
	key   K
	value V
}

// row is cells in order.
type row[K cmp.Ordered, V any] []cell[K, V]

// each goes through the table in an order that is a different one each time: no answer may hang on it.
func (t table[K, V]) each(yield func(K, V) bool) {
	for k, v := range t {
		if !yield(k, v) {
			return
		}
	}
}

func (t table[K, V]) clone() table[K, V] {
	copied := make(table[K, V], len(t))
	for k, v := range t.each {
		copied[k] = v
	}
	return copied
}

// sorted returns what the table has, by increasing keys.
func (t table[K, V]) sorted() row[K, V] {
	l := make(row[K, V], 0, len(t))
	for k, v := range t.each {
		l = append(l, cell[K, V]{key: k, value: v})
	}
	slices.SortFunc(l, byKey)
	return l
}

func byKey[K cmp.Ordered, V any](a, b cell[K, V]) int {
	return cmp.Compare(a.key, b.key)
}

func (l row[K, V]) each(yield func(K, V) bool) {
	for _, x := range l {
		if !yield(x.key, x.value) {
			return
		}
	}
}
