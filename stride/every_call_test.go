package stride_test

import (
	"math"
	"math/rand"
	"reflect"
	"slices"
	"strings"
	"testing"

	"stride/api"
	"stride/stride"
)

// wildTexts: texts of all kinds, by chance but always the same: bytes, pieces of right texts, right texts with a byte changed.
func wildTexts() []string {
	random := rand.New(rand.NewSource(7))
	reach, _ := stride.Catalogue("reach")
	rank, _ := stride.Catalogue("rank")
	right := []string{"b 2\na 1\n\nb>a -7\nä 0\na>ä 5", reach, rank, program("new: 1 3 [ 2 [ 1 + ] ]"), "reach"}
	pieces := []string{"a", "ä", ">", " ", "\n", "1", "-", "new:", "go:", "by:", "min", "[", "]", "+", "\xff", "\ufffd", "value", ""}
	texts := []string{"", "\x00", "\n", strings.Repeat("a 1\n", 2000), strings.Repeat("new: ", 3000), strings.Repeat("\xff", 1<<20)}
	for range 3000 {
		noise := make([]byte, random.Intn(40))
		random.Read(noise)
		mixed := ""
		for range random.Intn(30) {
			mixed += pieces[random.Intn(len(pieces))]
		}
		changed := []byte(right[random.Intn(len(right))])
		changed[random.Intn(len(changed))] = byte(random.Intn(256))
		texts = append(texts, string(noise), mixed, string(changed))
	}
	return texts
}

// TestTextsAreAnswered: P1 and P2, no text makes a call panic, an error comes with nothing else, and the same text gets the same answer, whatever was asked between.
func TestTextsAreAnswered(t *testing.T) {
	type answer struct {
		graph                   api.Graph
		text                    string
		parsed, compiled, named api.Errno
		parsedAt, compiledAt    int
		asGraph, asProgram      api.Result
		graphRun, programRun    api.Errno
	}
	reach := named(t, "reach")
	ask := func(text string) (a answer) {
		a.graph, a.parsed, a.parsedAt = stride.Parse(text)
		a.compiled, a.compiledAt = stride.Compile(text)
		a.text, a.named = stride.Catalogue(text)
		a.asGraph, a.graphRun = stride.Run(text, reach, 9)
		a.asProgram, a.programRun = stride.Run(roads, text, 9)
		return a
	}
	texts := wildTexts()
	first := make([]answer, len(texts))
	for i, text := range texts {
		first[i] = ask(text)
		a := first[i]
		if a.parsed != api.OK && !reflect.DeepEqual(a.graph, api.Graph{}) || a.named != api.OK && a.text != "" {
			t.Errorf("an error for %.60q comes with more: %v", text, a)
		}
		if a.parsed == api.OK && a.parsedAt != 0 || a.compiled == api.OK && a.compiledAt != 0 {
			t.Errorf("OK for %.60q comes with a place: %v", text, a)
		}
		if a.graphRun != a.parsed || a.programRun != a.compiled {
			t.Errorf("runs with %.60q are refused otherwise than the text: %v", text, a)
		}
		for _, r := range []api.Result{a.asGraph, a.asProgram} {
			if nothing := reflect.DeepEqual(r, api.Result{}); nothing != (r.Outcome == api.None) {
				t.Errorf("a run with %.60q comes to nothing and more: %v", text, a)
			}
		}
		if (a.asGraph.Outcome == api.None) != (a.graphRun != api.OK) || (a.asProgram.Outcome == api.None) != (a.programRun != api.OK) {
			t.Errorf("a run with %.60q has both a result and an error, or none: %v", text, a)
		}
	}
	for i, text := range texts {
		a := first[i]
		conf := api.Conf{Every: 2, Keep: 1, Cap: 9}
		asGraph, _, graphError := stride.Resume(stride.NewDisk(vast), text, reach, conf)
		asProgram, _, programError := stride.Resume(stride.NewDisk(vast), roads, text, conf)
		if graphError != a.graphRun || programError != a.programRun || !reflect.DeepEqual(asGraph, a.asGraph) || !reflect.DeepEqual(asProgram, a.asProgram) {
			t.Errorf("on a new disk a run with %.60q comes to %v, %d and %v, %d, without one %v", text, asGraph, graphError, asProgram, programError, a)
		}
	}
	for i, text := range slices.Backward(texts) {
		if again := ask(text); !reflect.DeepEqual(again, first[i]) {
			t.Errorf("%.60q is answered %v, then %v", text, first[i], again)
		}
	}
}

// TestNoCallPanics: P1 and P2 for the calls that have numbers, lists or a disk.
func TestNoCallPanics(t *testing.T) {
	reach, _ := stride.Catalogue("reach")
	keep := []int{5, -1, math.MaxInt, math.MinInt, 9, 9}
	for _, n := range []int{0, 1, -1, 200, 201, math.MaxInt, math.MinInt} {
		for _, text := range []string{"", "a 1", "x", "\xff", strings.Repeat("z", 5000)} {
			stride.Run(text, reach, n)
			stride.Run("a 1", text, n)
			stride.Open(text)
			stride.Open(stride.Seal(text))
			d := stride.NewDisk(n)
			d.Create(text)
			d.Append(text, text)
			d.Sync(text)
			d.Rename(text, "y")
			d.Remove(text)
			d.SyncDir()
			d.List()
			d.Read(text)
			d.Used()
			d.Quota(n)
			d.Arm(n)
			d.Crash(n, keep[:4])
			stride.Resume(d, text, reach, api.Conf{Every: n, Keep: n, Cap: n})
			stride.Resume(d, "a 1", text, api.Conf{Every: 1, Keep: 1, Cap: 1})
		}
	}
	if !slices.Equal(keep, []int{5, -1, math.MaxInt, math.MinInt, 9, 9}) {
		t.Errorf("a list that was handed in is %v now", keep)
	}
}
