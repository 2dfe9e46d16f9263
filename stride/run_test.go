package stride_test

import (
	"math"
	"reflect"
	"slices"
	"strings"
	"testing"

	"stride/api"
	"stride/stride"
)

const (
	far      = 1000000000
	least    = math.MinInt64
	greatest = math.MaxInt64
)

// still: a program that leaves all values as they are and ends behind step 0, with these lines in place of its own.
func still(changed ...string) string {
	return program(append([]string{"new: value", "go: 0", "msg: 0", "halt: 1", "give: 0", "by: sum", "all: sum"}, changed...)...)
}

func named(t *testing.T, name string) string {
	t.Helper()
	text, e := stride.Catalogue(name)
	if e != api.OK {
		t.Fatalf("Catalogue(%q) = %d", name, e)
	}
	return text
}

func checkRun(t *testing.T, graph, program string, limit int, want api.Outcome, step, vertex int, values ...int64) {
	t.Helper()
	r, e := stride.Run(graph, program, limit)
	if e != api.OK || r.Outcome != want || r.Step != step || r.Vertex != vertex || !slices.Equal(r.Values, values) {
		t.Errorf("Run(%.60q, %.200q, %d) = %v, %d, want %d, %d, %d, %v", graph, program, limit, r, e, want, step, vertex, values)
	}
}

func checkNoRun(t *testing.T, graph, program string, limit int, want api.Errno) {
	t.Helper()
	if r, e := stride.Run(graph, program, limit); e != want || !reflect.DeepEqual(r, api.Result{}) {
		t.Errorf("Run(%.60q, %.60q, %d) = %v, %d, want %d", graph, program, limit, r, e, want)
	}
}

// checkValue: the code, as what new says, makes this of a vertex with a value of 5.
func checkValue(t *testing.T, code string, want int64) {
	t.Helper()
	checkRun(t, "a 5", still("new: "+code), 9, api.Quiet, 1, 0, want)
}

// checkFails: the code fails in step 0, in whichever line it stands.
func checkFails(t *testing.T, code string) {
	t.Helper()
	for _, name := range []string{"new", "go", "halt", "give"} {
		checkRun(t, "a 5", still(name+": "+code), 9, api.Faulted, 0, 0, 5)
	}
	checkRun(t, "a 5\na>a 7", still("go: 1", "msg: "+code), 9, api.Faulted, 0, 0, 5)
}

const roads = "a 0\nb 1000000000\nc 1000000000\nd 1000000000\na>b 4\na>c 1\nc>b 2"

func TestRunExample(t *testing.T) {
	reach := named(t, "reach")
	checkRun(t, roads, reach, 10, api.Quiet, 3, 0, 0, 3, 1, far)
	checkRun(t, roads, reach, 2, api.Capped, 2, 0, 0, 4, 1, far)
	checkRun(t, roads, strings.Replace(reach, "give: 1", "give: 1 step 1 - /", 1), 10, api.Faulted, 1, 1, 0, far, far, far)
}

func TestRunTellsTheErrorNamedFirst(t *testing.T) {
	long := strings.Repeat("\n", 4001)
	for _, limit := range []int{-1, 5, 201} {
		for _, text := range []string{"", "x", program("new: +"), strings.Repeat("x", 2001), still()} {
			checkNoRun(t, long, text, limit, api.ErrLong)
			checkNoRun(t, "a 1\n\xff", text, limit, api.ErrRune)
			checkNoRun(t, "a", text, limit, api.ErrForm)
			checkNoRun(t, "a 1\na 1", text, limit, api.ErrTwice)
			checkNoRun(t, "a 1\na>b 1", text, limit, api.ErrName)
			checkNoRun(t, manyVertices(65), text, limit, api.ErrMany)
		}
		for _, graph := range []string{"", "a 1", roads} {
			checkNoRun(t, graph, strings.Repeat("x", 2001), limit, api.ErrLong)
			checkNoRun(t, graph, "", limit, api.ErrForm)
			checkNoRun(t, graph, still("all: x"), limit, api.ErrForm)
			checkNoRun(t, graph, still("new: +"), limit, api.ErrStack)
		}
	}
}

func TestRunLimits(t *testing.T) {
	ever := still("new: value 1 +", "halt: 0")
	for _, limit := range []int{-1, -2, 201, 202, math.MinInt, math.MaxInt, math.MinInt32, 1 << 32} {
		checkNoRun(t, "a 1", ever, limit, api.ErrConf)
		checkNoRun(t, "", ever, limit, api.ErrConf)
	}
	for _, limit := range []int{0, 1, 2, 199, 200} {
		checkRun(t, "a 1", ever, limit, api.Capped, limit, 0, int64(1+limit))
		checkRun(t, "", ever, limit, api.Quiet, 0, 0)
	}
	// Quiet comes ahead of Capped where both might be told; a word that would fail in the next step does not.
	checkRun(t, "a 1", still(), 1, api.Quiet, 1, 0, 1)
	checkRun(t, "a 1", still(), 0, api.Capped, 0, 0, 1)
	checkRun(t, "a 1", still("new: 1 0 /"), 0, api.Capped, 0, 0, 1)
	checkRun(t, "a 1", still("new: 9 3 step - /", "halt: 0"), 3, api.Capped, 3, 0, 9)
	checkRun(t, "a 1", still("new: 9 3 step - /", "halt: 0"), 4, api.Faulted, 3, 0, 9)
	checkRun(t, "a 1", still("new: 9 199 step - /", "halt: 0"), 200, api.Faulted, 199, 0, 9)
}

func TestRunWords(t *testing.T) {
	for code, want := range map[string]int64{
		"7": 7, "-1000000000": -far, "0": 0, "value": 5, "old": 5, "in": 0, "got": 0, "step": 0, "id": 0, "deg": 0, "all": 0,
		"7 2 +": 9, "7 2 -": 5, "2 7 -": -5, "7 -2 *": -14,
		"7 2 /": 3, "-7 2 /": -3, "7 -2 /": -3, "-7 -2 /": 3, "0 7 /": 0, "7 2 %": 1, "-7 2 %": -1, "7 -2 %": 1, "-7 -2 %": -1, "6 -2 %": 0, "2 7 %": 2, "-2 7 %": -2,
		"1 2 <": 1, "2 2 <": 0, "2 1 <": 0, "-1 0 <": 1, "2 2 =": 1, "2 -2 =": 0, "3 -4 min": -4, "-4 3 min": -4, "3 -4 max": 3, "-4 3 max": 3,
		"3 dup *": 9, "3 4 drop": 3, "7 2 swap -": -5, "7 2 over - -": 12, "1 2 3 ?": 2, "0 2 3 ?": 3, "-9 2 3 ?": 2,
	} {
		checkValue(t, code, want)
	}
	full := strings.Repeat(" 1", 16)
	checkValue(t, full[1:]+strings.Repeat(" +", 15), 16)
}

func TestRunRange(t *testing.T) {
	const low = "536870912 dup * 32 *" // the least value
	const high = low + " 1 -"          // the greatest
	const big = "1000000000 dup * "    // 10^18
	for code, want := range map[string]int64{
		low: least, high: greatest, high + " 1 +": least, low + " dup +": 0, high + " dup +": -2, high + " dup *": 1, high + " 2 *": -2,
		low + " -1 *": least, "0 " + low + " -": least, low + " -1 /": least, low + " -1 %": 0, low + " dup /": 1, low + " 1 /": least, high + " -1 /": -greatest, low + " " + high + " %": -1, high + " " + low + " /": 0, high + " " + low + " %": greatest,
		low + " " + high + " <": 1, high + " " + low + " <": 0, low + " " + high + " min": least, low + " " + high + " max": greatest, low + " dup =": 1,
		big + "10 *": -8446744073709551616, "1 63 [ dup + ]": least, "1 64 [ dup + ]": 0, low + " 0 1 ?": 0,
	} {
		checkValue(t, code, want)
	}
	// sums of messages, and of what is given, come in again at the other end too
	wide := "a 0\nb 0\nc 0\nb>a 1\nc>a 1"
	checkRun(t, wide, still("new: step 0 = value in ?", "go: step 0 =", "msg: "+high), 9, api.Quiet, 2, 0, -2, 0, 0)
	checkRun(t, "a 0\nb 0", still("new: step 0 = value all ?", "halt: step", "give: "+low), 9, api.Quiet, 2, 0, 0, 0)
}

func TestRunLoops(t *testing.T) {
	for code, want := range map[string]int64{
		"1 0 [ 2 * ]": 1, "1 -1 [ 2 * ]": 1, "1 -1000000000 [ 2 * ]": 1, "1 1 [ 2 * ]": 2, "1 2 [ 2 * ]": 4, "1 40 [ 2 * ]": 1 << 40, "1 value [ 2 * ]": 32,
		"1 1 63 [ dup + ] [ 2 * ]": 1, // the least value is below 1
		"0 3 [ 4 [ 1 + ] ]":        12, "0 3 [ 0 [ 1 + ] 5 + ]": 15, "0 0 [ 4 [ 1 + ] ]": 0, "0 2 [ 3 [ 2 [ 1 + ] 10 + ] 100 + ]": 272, "0 3 [ 1 [ 1 + ] 1 [ 1 + ] ]": 6,
		"0 4 [ dup [ 1 + ] 1 + ]": 15, // how often is asked each time that [ is come to
		"7 3 [ ]":                 7, "0 2 [ 3 [ ] 1 + ]": 2, "1 2 3 [ + 1 ] -": 4, "1 2 3 [ swap ] -": 1, "3 5 [ drop 8 ]": 8, "3 0 [ drop 8 ]": 3,
		"0 1 [ 1 + ] 2 [ 1 + ] 0 [ 1 + ]": 3,
	} {
		checkValue(t, code, want)
	}
}

func TestRunFuel(t *testing.T) {
	straight := strings.Repeat("1 drop ", 98) // 196 words
	for _, fits := range []string{
		straight + "1 1 =", straight + "3 1 2 ?", // 199 words, 200
		"197 [ ] 1",           // a number, [, 197 times ], a number
		"65 [ 1 drop ] 1 1 =", // 2, 195, 3
		"1 [ 194 [ ] ] 1",     // 2, 2, 194, 1, 1
		"3 [ 62 [ ] ] 1 1 =",  // 2, 3 times 65, 3
		"0 [ ] 195 [ ] 1",     // a loop that is not done costs no ]
		"-5 [ 1 drop 1000000000 [ ] ] 195 [ ] 1",
	} {
		checkValue(t, fits, 1)
	}
	for _, more := range []string{
		strings.Repeat("1 drop ", 99) + "1 1 =", "197 [ ] 1 1 =", "198 [ ] 1", "199 [ ] 1", "65 [ 1 drop ] 1 1 1 ?", "66 [ 1 drop ] 1", "1 [ 195 [ ] ] 1", "3 [ 62 [ ] ] 3 1 2 ?", "0 [ ] 196 [ ] 1",
		"1000000000 [ ] 1", "1000000000 [ 1000000000 [ ] ] 1", "1 63 [ dup + ] 1 - [ ] 1",
	} {
		checkFails(t, more)
	}
	// all code begins anew with 200, for each edge and each vertex too
	const all = "197 [ ] 1"
	checkRun(t, "a 5\nb 6\na>b 1\na>b 2\na>a 3", still("new: "+all, "go: "+all, "msg: "+all, "halt: "+all, "give: "+all), 9, api.Capped, 9, 0, 1, 1)
}

func TestRunFails(t *testing.T) {
	for _, code := range []string{"1 0 /", "1 0 %", "0 0 /", "0 0 %", "1 63 [ dup + ] 0 /", "1 63 [ dup + ] 0 %", "1 5 5 - /", "1 [ 1 0 / drop ] 1", "1 0 / drop 1"} {
		checkFails(t, code)
	}
	for _, code := range []string{"1 0 [ 1 0 / drop ]", "0 1 / 1 +", "1 1 % 1 +"} {
		checkValue(t, code, 1)
	}
	checkRun(t, "a 5", still("new: 1 0 1 0 ? /"), 9, api.Faulted, 0, 0, 5)
	checkRun(t, "a 5", still("new: 1 1 1 0 ? /"), 9, api.Quiet, 1, 0, 1)
	// the first vertex by its number, not by its line, nor by the line of its program
	checkRun(t, "z 1\nb 2\na 3", still("new: 1 value /", "give: 1 id 1 = 0 = /"), 9, api.Faulted, 0, 1, 3, 2, 1)
	checkRun(t, "c 1\nb 2\na 3", still("new: 1 id 2 - /", "give: 1 id 1 - /"), 9, api.Faulted, 0, 1, 3, 2, 1)
	checkRun(t, "c 1\nb 2\na 3", still("new: 1 id 1 - /", "give: 1 id 2 - /"), 9, api.Faulted, 0, 1, 3, 2, 1)
	// msg is asked only where there is something to send, and somewhere
	const msg = "msg: 1 weight /"
	checkRun(t, "a 1\nb 2\na>b 5\nb>a 0", still(msg), 9, api.Quiet, 1, 0, 1, 2)
	checkRun(t, "a 1\nb 2\na>b 5\nb>a 0", still("go: id 0 =", msg), 1, api.Capped, 1, 0, 1, 2)
	checkRun(t, "a 1\nb 2\na>b 5\nb>a 0", still("go: 1", msg), 9, api.Faulted, 0, 1, 1, 2)
	checkRun(t, "a 1\nb 2\na>b 5\na>b 0", still("go: -1", msg), 9, api.Faulted, 0, 0, 1, 2)
	checkRun(t, "a 1", still("go: 1", "msg: 1 0 /"), 9, api.Quiet, 1, 0, 1)
	// the values of a step that fails are those ahead of it, of all vertices
	checkRun(t, "a 1\nb 2\nc 3", still("new: value 10 *", "halt: 0", "give: 1 step 2 = id 1 = * 0 = /"), 9, api.Faulted, 2, 1, 100, 200, 300)
	checkRun(t, "a 1\nb 2\nc 3", still("new: value 10 *", "halt: 0", "give: 1 step 2 = id 2 = * 0 = /"), 9, api.Faulted, 2, 2, 100, 200, 300)
	// one that rests does not fail
	checkRun(t, "a 1\nb 2", still("new: 1 step id 1 + < /", "halt: id 0 ="), 9, api.Faulted, 2, 1, 1, 1)
}

func TestRunSteps(t *testing.T) {
	// what each word stands for, in new and behind it
	const seven = "value 1000 * old + 1000 * in + 1000 * got + 1000 * step + 1000 * id + 1000 * deg +"
	graph := "a 1\nb 2\na>b 1\na>b 1\nb>b 1"
	base := []string{"go: step 0 =", "msg: id 3 +"}
	checkRun(t, graph, still(append(base, "new: step 0 = 9 "+seven+" ?")...), 9, api.Quiet, 2, 0, 9, 9009010003001001001)
	checkRun(t, graph, still(append(base, "new: step 0 = 7 step 1 = 8 all ? ?", "give: step id * 1 = "+seven+" 0 ?", "halt: step 2 =")...), 9, api.Quiet, 3, 0, 8007010003001001001, 8007010003001001001)
	// in go, msg, halt and give value is the new one, old the one ahead of it
	const both = "value 100 * old +"
	checkRun(t, "a 1\nb 0\na>b 5", still("new: step 0 = value 10 * in ?", "go: step 0 =", "msg: "+both+" 100 * weight +"), 9, api.Quiet, 2, 0, 10, 100105)
	checkRun(t, "a 1", still("new: step 0 = value 10 * all ?", "give: "+both, "halt: step"), 9, api.Quiet, 2, 0, 1001)
	checkRun(t, "a 1", still("new: value 1 +", "halt: "+both+" 504 ="), 9, api.Quiet, 4, 0, 5)
	checkRun(t, "a 1\nb 0\na>b 1", still("new: value 1 + got 1000 * +", "go: "+both+" 504 =", "halt: step 5 ="), 9, api.Quiet, 6, 0, 7, 1006)
	// deg counts the edges that go from a vertex, id its place by runes
	checkRun(t, "ö 0\nb 0\na 0\nb>a 1\nb>b 1\nb>b 1\nö>a 1", still("new: id 10 * deg +"), 9, api.Quiet, 1, 0, 0, 13, 21)
}

func TestRunRests(t *testing.T) {
	// a rests from step 0 on, and is woken by the message that b sends in step 2
	text := still("new: value 1 +", "go: id 1 = step 2 = *", "halt: id 0 = step 4 < 0 = max")
	checkRun(t, "a 0\nb 10\nc 20\nb>a 1", text, 9, api.Quiet, 5, 0, 2, 15, 25)
	// a message wakes, whatever it says
	checkRun(t, "a 0\nb 0\nb>a 1", still("new: value 1 +", "go: id step 0 = *"), 9, api.Quiet, 2, 0, 2, 1)
	// who is woken may stay awake
	checkRun(t, "a 0\nb 0\nb>a 1", still("new: value 1 +", "go: id step 0 = *", "halt: step 1 < step 3 = max"), 9, api.Quiet, 4, 0, 4, 1)
	// halt is 1 for all that is not 0
	checkRun(t, "a 0\nb 0\nc 0", still("new: value 1 +", "halt: id 1 -"), 3, api.Capped, 3, 0, 1, 3, 1)
	// who rests gives nothing
	for kind, want := range map[string]int64{"min": 2, "max": 3, "sum": 5} {
		checkRun(t, "a 7\nb 2\nc 3\nd -9", still("new: step 2 = all value ?", "halt: id 2 - id 1 - * step 2 = max", "give: value", "all: "+kind), 9, api.Quiet, 3, 0, 7, want, want, -9)
	}
	// a message is told once
	checkRun(t, "a 0\nb 0\nb>a 1", still("new: value got + in +", "go: step 0 =", "msg: 5", "halt: step 4 ="), 9, api.Quiet, 5, 0, 6, 0)
}

func TestRunCombines(t *testing.T) {
	const graph = "a 0\nb 7\nc -4\nd 0\nb>a 1\nb>a 2\nc>a 3"
	for _, c := range []struct {
		kind              string
		nothing, messages int64
		given             int64
	}{{"min", greatest, -1, -4}, {"max", least, 9, 7}, {"sum", 0, 16, 3}} {
		by, all := "by: "+c.kind, "all: "+c.kind
		checkRun(t, graph, still("new: in", by), 9, api.Quiet, 1, 0, c.nothing, c.nothing, c.nothing, c.nothing)
		checkRun(t, graph, still("new: all", all), 9, api.Quiet, 1, 0, c.nothing, c.nothing, c.nothing, c.nothing)
		checkRun(t, graph, still("new: step 0 = value in ?", "go: step 0 =", "msg: value weight +", "halt: step", by), 9, api.Quiet, 2, 0, c.messages, c.nothing, c.nothing, c.nothing)
		checkRun(t, graph, still("new: step 0 = value all ?", "give: value", "halt: step", all), 9, api.Quiet, 2, 0, c.given, c.given, c.given, c.given)
		// one value alone is what it is; nothing of an earlier step is left
		checkRun(t, "a 5\na>a 1", still("new: step 0 = value in ?", "go: step 4 <", "msg: step 100 +", by), 9, api.Quiet, 5, 0, 103)
		checkRun(t, "a 5", still("new: step 0 = value all ?", "give: step 100 +", "halt: step 4 =", all), 9, api.Quiet, 5, 0, 103)
		checkRun(t, "a 5\nb 6\na>b 1", still("new: step 0 = value in ?", "go: step 2 <", "halt: step 3 =", "msg: step 100 +", by), 3, api.Capped, 3, 0, c.nothing, 101)
	}
	// by and all are told apart
	checkRun(t, graph, still("new: step 0 = value in all - ?", "go: step 0 =", "msg: value weight +", "give: value", "by: min", "all: max"), 9, api.Quiet, 2, 0, -8, 7, -4, 0)
}

// TestRunAnswersAreNew: P2, what is written into one answer, its spare room too, shows in no other.
func TestRunAnswersAreNew(t *testing.T) {
	for _, c := range []struct {
		text  string
		limit int
	}{{named(t, "most"), 9}, {named(t, "most"), 0}, {still("new: 1 id 2 - /"), 9}} {
		const graph = "a 5\nb 9\nc -2\nb>a 0\na>c 0"
		first, _ := stride.Run(graph, c.text, c.limit)
		second, _ := stride.Run(graph, c.text, c.limit)
		want := slices.Clone(second.Values)
		clear(first.Values[:cap(first.Values)])
		third, _ := stride.Run(graph, c.text, c.limit)
		if !slices.Equal(second.Values, want) || !slices.Equal(third.Values, want) || len(want) != 3 {
			t.Errorf("results that are told beside another one: %v, %v, want %v", second, third, want)
		}
	}
}
