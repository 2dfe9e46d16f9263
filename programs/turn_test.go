package programs

import (
	"errors"
	"reflect"
	"strings"
	"testing"

	"stride/api"
)

func compiled(t *testing.T, lines ...string) *Program {
	t.Helper()
	p, e, at := Compile(strings.Join(lines, "\n"))
	if e != api.OK {
		t.Fatalf("Compile(%q) = %d, %d", lines, e, at)
	}
	return p
}

func TestTurn(t *testing.T) {
	p := compiled(t, "new: value in +", "go: got", "msg: value old - weight *", "halt: step", "give: all 9 id - /", "by: min", "all: sum")
	edges := []api.Edge{{Weight: 2}, {Weight: -1}}
	for _, c := range []struct {
		seen Sight
		want Turn
		ok   bool
	}{
		{Sight{Value: 5, In: 3, Got: 1, Step: 2, ID: 7, All: 8}, Turn{Value: 8, Messages: []int64{6, -3}, Rests: true, Given: 4}, true},
		{Sight{Value: 5, In: 3, All: -9}, Turn{Value: 8, Given: -1}, true},
		{Sight{Value: 5, In: 3, Got: 1, Step: 2, ID: 9}, Turn{}, false},
	} {
		if got, ok := p.Turn(c.seen, edges); ok != c.ok || !reflect.DeepEqual(got, c.want) {
			t.Errorf("Turn(%v) = %v, %t, want %v, %t", c.seen, got, ok, c.want, c.ok)
		}
	}
}

// TestTurnCatchesWordsAlone: what is no word's giving up is a fault of the program itself, and not told as a word's.
func TestTurnCatchesWordsAlone(t *testing.T) {
	p := compiled(t, "new: 1", "go: 1", "msg: 1", "halt: 1", "give: 1", "by: min", "all: sum")
	fault := errors.New("no word's")
	p.lines[haltLine].code[0].do = func(*machine) { panic(fault) }
	defer func() {
		if why := recover(); why != fault {
			t.Errorf("a fault comes out as %v", why)
		}
	}()
	p.Turn(Sight{}, nil)
}
