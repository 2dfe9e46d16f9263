package programs

import (
	"errors"
	"math"
	"slices"
	"strings"
	"testing"

	"stride/api"
)

// do does the code on a machine with these values on its stack, and tells what is there then.
func do(t *testing.T, text string, seen Sight, stack ...int64) []int64 {
	t.Helper()
	c, ok := readCode(strings.Split(text, " "), words(), true)
	if !ok {
		t.Fatalf("%q is no code", text)
	}
	m := machine{code: c, fuel: api.MaxFuel, sight: seen}
	for _, value := range stack {
		m.put(value)
	}
	m.run()
	return slices.Clone(m.stack[:m.height])
}

func TestWhatWordsDo(t *testing.T) {
	const least, greatest = math.MinInt64, math.MaxInt64
	for _, c := range []struct {
		text        string
		stack, want []int64
	}{
		{"-1000000000", nil, []int64{-1000000000}},
		{"+", []int64{9, 7, 2}, []int64{9, 9}}, {"+", []int64{greatest, 1}, []int64{least}},
		{"-", []int64{7, 2}, []int64{5}}, {"-", []int64{least, 1}, []int64{greatest}},
		{"*", []int64{7, -2}, []int64{-14}}, {"*", []int64{greatest, 2}, []int64{-2}}, {"*", []int64{least, -1}, []int64{least}},
		{"/", []int64{7, 2}, []int64{3}}, {"/", []int64{-7, 2}, []int64{-3}}, {"/", []int64{7, -2}, []int64{-3}}, {"/", []int64{least, -1}, []int64{least}},
		{"%", []int64{7, 2}, []int64{1}}, {"%", []int64{-7, 2}, []int64{-1}}, {"%", []int64{7, -2}, []int64{1}}, {"%", []int64{least, -1}, []int64{0}},
		{"<", []int64{1, 2}, []int64{1}}, {"<", []int64{2, 2}, []int64{0}}, {"<", []int64{3, 2}, []int64{0}},
		{"=", []int64{1, 2}, []int64{0}}, {"=", []int64{2, 2}, []int64{1}},
		{"min", []int64{5, -3}, []int64{-3}}, {"min", []int64{-3, 5}, []int64{-3}},
		{"max", []int64{5, -3}, []int64{5}}, {"max", []int64{-3, 5}, []int64{5}},
		{"dup", []int64{1, 2}, []int64{1, 2, 2}}, {"drop", []int64{1, 2}, []int64{1}},
		{"swap", []int64{1, 2, 3}, []int64{1, 3, 2}}, {"over", []int64{1, 2, 3}, []int64{1, 2, 3, 2}},
		{"?", []int64{4, 1, 2, 3}, []int64{4, 2}}, {"?", []int64{4, -1, 2, 3}, []int64{4, 2}}, {"?", []int64{4, 0, 2, 3}, []int64{4, 3}},
		{"[ 2 * ]", []int64{1, 5}, []int64{32}}, {"[ 2 * ]", []int64{3, 1}, []int64{6}}, {"[ 2 * ]", []int64{3, 0}, []int64{3}}, {"[ 2 * ] 1 +", []int64{3, -1}, []int64{4}},
		{"[ 3 [ 1 + ] 2 * ]", []int64{0, 2}, []int64{18}}, {"[ 0 [ 1 + ] 3 + ]", []int64{0, 4}, []int64{12}},
	} {
		if got := do(t, c.text, Sight{}, c.stack...); !slices.Equal(got, c.want) {
			t.Errorf("%q on %v = %v, want %v", c.text, c.stack, got, c.want)
		}
	}
}

func TestWhatWordsStandFor(t *testing.T) {
	seen := Sight{Value: 1, old: 2, In: 3, Got: 4, Step: 5, ID: 6, Deg: 7, All: 8, weight: 9}
	got := do(t, "value old in got step id deg all weight", seen)
	if !slices.Equal(got, []int64{1, 2, 3, 4, 5, 6, 7, 8, 9}) {
		t.Errorf("the words stand for %v", got)
	}
}

func TestWordsGiveUp(t *testing.T) {
	for _, c := range []struct {
		text  string
		stack []int64
		want  error
	}{
		{"/", []int64{1, 0}, errZero}, {"%", []int64{0, 0}, errZero},
		{"+", []int64{1}, errStack}, {"dup", make([]int64, 16), errStack}, {"[ 1 ]", []int64{2}, errStack},
		{"[ ]", []int64{1000000000}, errFuel},
	} {
		func() {
			defer func() {
				if err, ok := recover().(error); !ok || !errors.Is(err, c.want) {
					t.Errorf("%q on %v gives up with %v, want %v", c.text, c.stack, err, c.want)
				}
			}()
			do(t, c.text, Sight{}, c.stack...)
		}()
	}
}
