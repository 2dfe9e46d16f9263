// Package ordered: a table that stands in the order of its keys.
package ordered

import (
	"cmp"
	"slices"
)

type entry[K cmp.Ordered, V any] struct {
	key   K
	value V
}

// Table has a value for each of its keys, by rising keys. The zero Table is empty.
type Table[K cmp.Ordered, V any] struct {
	entries []entry[K, V]
}

// Len tells how many keys there are.
func (t *Table[K, V]) Len() int { return len(t.entries) }

// Place tells how many keys are below this one, and whether it is there itself.
func (t *Table[K, V]) Place(key K) (int, bool) {
	return slices.BinarySearchFunc(t.entries, key, func(e entry[K, V], key K) int {
		return cmp.Compare(e.key, key)
	})
}

// Add puts a new key in its place; it changes nothing and tells false if the key is there already.
func (t *Table[K, V]) Add(key K, value V) bool {
	place, there := t.Place(key)
	if there {
		return false
	}
	t.entries = slices.Insert(t.entries, place, entry[K, V]{key, value})
	return true
}

// Get tells a key's value, and whether the key is there.
func (t *Table[K, V]) Get(key K) (V, bool) {
	place, there := t.Place(key)
	if !there {
		var nothing V
		return nothing, false
	}
	return t.entries[place].value, true
}

// First tells the least key and its value, and whether there is one.
func (t *Table[K, V]) First() (K, V, bool) { return t.at(0) }

// Last tells the greatest key and its value, and whether there is one.
func (t *Table[K, V]) Last() (K, V, bool) { return t.at(len(t.entries) - 1) }

func (t *Table[K, V]) at(place int) (K, V, bool) {
	if place < 0 || place >= len(t.entries) {
		var nothing entry[K, V]
		return nothing.key, nothing.value, false
	}
	return t.entries[place].key, t.entries[place].value, true
}

// Set gives a key this value, in place of the one that it has, if it is there.
func (t *Table[K, V]) Set(key K, value V) {
	if t.Add(key, value) {
		return
	}
	place, _ := t.Place(key)
	t.entries[place].value = value
}

// Remove takes a key away, if it is there.
func (t *Table[K, V]) Remove(key K) {
	if place, there := t.Place(key); there {
		t.entries = slices.Delete(t.entries, place, place+1)
	}
}

// Clone makes a table of the same keys and values that changes apart from this one.
func (t *Table[K, V]) Clone() Table[K, V] {
	return Table[K, V]{slices.Clone(t.entries)}
}

// All goes through the keys and their values, by rising keys.
func (t *Table[K, V]) All() func(yield func(K, V) bool) {
	return func(yield func(K, V) bool) {
		for _, e := range t.entries {
			if !yield(e.key, e.value) {
				return
			}
		}
	}
}
