package ordered

import (
	"slices"
	"testing"
)

func keysOf[V any](t *Table[string, V]) []string {
	var keys []string
	for key := range t.All() {
		keys = append(keys, key)
	}
	return keys
}

func TestKeysStandInOrder(t *testing.T) {
	var table Table[string, int]
	for i, key := range []string{"m", "z", "", "aa", "a", "Z", "\xff", "é"} {
		if !table.Add(key, i) {
			t.Errorf("Add(%q) of a new key tells false", key)
		}
	}
	want := []string{"", "Z", "a", "aa", "m", "z", "é", "\xff"}
	if got := keysOf(&table); !slices.Equal(got, want) || table.Len() != len(want) {
		t.Errorf("keys = %q, %d, want %q", got, table.Len(), want)
	}
	for i, key := range want {
		if place, there := table.Place(key); place != i || !there {
			t.Errorf("Place(%q) = %d, %t, want %d, true", key, place, there, i)
		}
	}
	if place, there := table.Place("b"); place != 4 || there {
		t.Errorf("Place of a key that is not there = %d, %t", place, there)
	}
}

func TestAddKeepsTheFirst(t *testing.T) {
	var table Table[rune, string]
	table.Add('x', "first")
	if table.Add('x', "second") || table.Len() != 1 {
		t.Errorf("a key that is there already was added, %d keys", table.Len())
	}
	for key, value := range table.All() {
		if key != 'x' || value != "first" {
			t.Errorf("entry %q, %q", key, value)
		}
	}
}

func TestAllCanBeLeft(t *testing.T) {
	var table Table[int, bool]
	for i := range 5 {
		table.Add(-i, true)
	}
	var seen []int
	for key := range table.All() {
		seen = append(seen, key)
		if key == -3 {
			break
		}
	}
	if !slices.Equal(seen, []int{-4, -3}) {
		t.Errorf("keys up to -3: %v", seen)
	}
}

func TestEmptyTable(t *testing.T) {
	var table Table[float64, int]
	if place, there := table.Place(1); place != 0 || there || table.Len() != 0 {
		t.Errorf("Place in an empty table = %d, %t", place, there)
	}
}
