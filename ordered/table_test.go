package ordered

import (
	"slices"
	"testing"
)

func keysOf[V any](t *Table[string, V]) []string {
	var keys []string
	for key := range t.All() {
		keys = append(keys, key)
	}
	return keys
}

func TestKeysStandInOrder(t *testing.T) {
	var table Table[string, int]
	for i, key := range []string{"m", "z", "", "aa", "a", "Z", "\xff", "é"} {
		if !table.Add(key, i) {
			t.Errorf("Add(%q) of a new key tells false", key)
		}
	}
	want := []string{"", "Z", "a", "aa", "m", "z", "é", "\xff"}
	if got := keysOf(&table); !slices.Equal(got, want) || table.Len() != len(want) {
		t.Errorf("keys = %q, %d, want %q", got, table.Len(), want)
	}
	for i, key := range want {
		if place, there := table.Place(key); place != i || !there {
			t.Errorf("Place(%q) = %d, %t, want %d, true", key, place, there, i)
		}
	}
	if place, there := table.Place("b"); place != 4 || there {
		t.Errorf("Place of a key that is not there = %d, %t", place, there)
	}
}

func TestAddKeepsTheFirst(t *testing.T) {
	var table Table[rune, string]
	table.Add('x', "first")
	if table.Add('x', "second") || table.Len() != 1 {
		t.Errorf("a key that is there already was added, %d keys", table.Len())
	}
	for key, value := range table.All() {
		if key != 'x' || value != "first" {
			t.Errorf("entry %q, %q", key, value)
		}
	}
}

func TestSetAndGet(t *testing.T) {
	var table Table[string, int]
	if value, there := table.Get("b"); value != 0 || there {
		t.Errorf("Get of an empty table = %d, %t", value, there)
	}
	for i, key := range []string{"b", "a", "c", "b"} {
		table.Set(key, i+1)
	}
	for key, want := range map[string]int{"a": 2, "b": 4, "c": 3} {
		if value, there := table.Get(key); value != want || !there {
			t.Errorf("Get(%q) = %d, %t, want %d", key, value, there, want)
		}
	}
	for _, key := range []string{"", "aa", "d"} {
		if value, there := table.Get(key); value != 0 || there {
			t.Errorf("Get(%q) of a key that is not there = %d, %t", key, value, there)
		}
	}
	if got := keysOf(&table); !slices.Equal(got, []string{"a", "b", "c"}) {
		t.Errorf("keys = %q", got)
	}
}

func TestRemove(t *testing.T) {
	var table Table[string, int]
	table.Remove("a")
	for _, key := range []string{"c", "a", "b"} {
		table.Add(key, 1)
	}
	table.Remove("aa")
	table.Remove("b")
	table.Remove("b")
	if got := keysOf(&table); !slices.Equal(got, []string{"a", "c"}) || table.Len() != 2 {
		t.Errorf("keys = %q, %d", got, table.Len())
	}
	if !table.Add("b", 2) {
		t.Errorf("a key that was removed can't be added")
	}
}

func TestCloneChangesApart(t *testing.T) {
	var table Table[string, int]
	for i, key := range []string{"a", "b", "c"} {
		table.Add(key, i)
	}
	clone := table.Clone()
	if got := keysOf(&clone); !slices.Equal(got, []string{"a", "b", "c"}) {
		t.Errorf("keys of the clone = %q", got)
	}
	clone.Remove("a")
	clone.Set("b", 9)
	clone.Add("d", 9)
	table.Add("e", 7)
	if got := keysOf(&table); !slices.Equal(got, []string{"a", "b", "c", "e"}) {
		t.Errorf("keys = %q", got)
	}
	if value, _ := table.Get("b"); value != 1 {
		t.Errorf("value of b = %d", value)
	}
	if got := keysOf(&clone); !slices.Equal(got, []string{"b", "c", "d"}) {
		t.Errorf("keys of the changed clone = %q", got)
	}
}

func TestAllCanBeLeft(t *testing.T) {
	var table Table[int, bool]
	for i := range 5 {
		table.Add(-i, true)
	}
	var seen []int
	for key := range table.All() {
		seen = append(seen, key)
		if key == -3 {
			break
		}
	}
	if !slices.Equal(seen, []int{-4, -3}) {
		t.Errorf("keys up to -3: %v", seen)
	}
}

func TestEmptyTable(t *testing.T) {
	var table Table[float64, int]
	if place, there := table.Place(1); place != 0 || there || table.Len() != 0 {
		t.Errorf("Place in an empty table = %d, %t", place, there)
	}
}

func TestFirstAndLast(t *testing.T) {
	var table Table[int, string]
	check := func(first int, firstValue string, last int, lastValue string, there bool) {
		t.Helper()
		if key, value, ok := table.First(); key != first || value != firstValue || ok != there {
			t.Errorf("First = %d, %q, %t, want %d, %q", key, value, ok, first, firstValue)
		}
		if key, value, ok := table.Last(); key != last || value != lastValue || ok != there {
			t.Errorf("Last = %d, %q, %t, want %d, %q", key, value, ok, last, lastValue)
		}
	}
	check(0, "", 0, "", false)
	table.Add(5, "five")
	check(5, "five", 5, "five", true)
	table.Add(10, "ten")
	table.Add(9, "nine")
	table.Add(-1, "below")
	check(-1, "below", 10, "ten", true)
	table.Remove(-1)
	table.Remove(10)
	check(5, "five", 9, "nine", true)
	table.Remove(5)
	table.Remove(9)
	check(0, "", 0, "", false)
}
