package stride_test

import (
	"math/big"
	"math/rand"
	"slices"
	"strconv"
	"strings"
	"testing"

	"stride/api"
	"stride/stride"
)

// wrap: what comes in again at the other end.
func wrap(n *big.Int) int64 {
	low := new(big.Int).And(n, new(big.Int).SetUint64(1<<64-1))
	return int64(low.Uint64())
}

func truth(b bool) *big.Int {
	if b {
		return big.NewInt(1)
	}
	return big.NewInt(0)
}

// codeReference does code by other means than the program: by recursion, on numbers without bounds.
type codeReference struct {
	seen  map[string]int64
	stack []int64
	done  int
}

func (r *codeReference) pop() int64 {
	top := r.stack[len(r.stack)-1]
	r.stack = r.stack[:len(r.stack)-1]
	return top
}

func (r *codeReference) spend() bool {
	r.done++
	return r.done <= 200
}

func closing(words []string) int {
	depth := 0
	for i, w := range words {
		if w == "[" {
			depth++
		}
		if w == "]" {
			depth--
		}
		if depth == 0 {
			return i
		}
	}
	panic("no ]")
}

// do tells false if a word fails.
func (r *codeReference) do(words []string) bool {
	if len(words) == 0 {
		return true
	}
	if !r.spend() {
		return false
	}
	if words[0] != "[" {
		return r.one(words[0]) && r.do(words[1:])
	}
	end := closing(words)
	for n := r.pop(); n > 0; n-- {
		if !r.do(words[1:end]) || !r.spend() {
			return false
		}
	}
	return r.do(words[end+1:])
}

func (r *codeReference) one(word string) bool {
	if n, err := strconv.ParseInt(word, 10, 64); err == nil {
		r.stack = append(r.stack, n)
		return true
	}
	if n, ok := r.seen[word]; ok {
		r.stack = append(r.stack, n)
		return true
	}
	top := len(r.stack) - 1
	switch word {
	case "dup":
		r.stack = append(r.stack, r.stack[top])
		return true
	case "over":
		r.stack = append(r.stack, r.stack[top-1])
		return true
	case "drop":
		r.pop()
		return true
	case "swap":
		r.stack[top], r.stack[top-1] = r.stack[top-1], r.stack[top]
		return true
	case "?":
		if r.stack[top-2] != 0 {
			r.stack[top-2] = r.stack[top-1]
		} else {
			r.stack[top-2] = r.stack[top]
		}
		r.stack = r.stack[:top-1]
		return true
	}
	upper := big.NewInt(r.pop())
	lower := big.NewInt(r.pop())
	answer := new(big.Int)
	switch word {
	case "+":
		answer.Add(lower, upper)
	case "-":
		answer.Sub(lower, upper)
	case "*":
		answer.Mul(lower, upper)
	case "/", "%":
		if upper.Sign() == 0 {
			return false
		}
		if word == "/" {
			answer.Quo(lower, upper)
		} else {
			answer.Rem(lower, upper)
		}
	case "<":
		answer = truth(lower.Cmp(upper) < 0)
	case "=":
		answer = truth(lower.Cmp(upper) == 0)
	case "min", "max":
		answer.SetInt64(referenceCombine(word, []int64{lower.Int64(), upper.Int64()}))
	default:
		panic("no word: " + word)
	}
	r.stack = append(r.stack, wrap(answer))
	return true
}

func referenceCombine(kind string, values []int64) int64 {
	sorted := slices.Sorted(slices.Values(values))
	sum := new(big.Int)
	for _, v := range values {
		sum.Add(sum, big.NewInt(v))
	}
	switch {
	case kind == "sum":
		return wrap(sum)
	case kind == "min" && len(sorted) == 0:
		return greatest
	case kind == "min":
		return sorted[0]
	case len(sorted) == 0:
		return least
	}
	return sorted[len(sorted)-1]
}

// state: a configuration, and the step that it is ahead of.
type state struct {
	step   int
	values []int64
	rests  []bool
	got    []int
	in     []int64
	all    int64
}

// referenceProgram: the words of each line, by its name.
func referenceProgram(text string) map[string][]string {
	code := map[string][]string{}
	for _, line := range strings.Split(text, "\n") {
		name, rest, _ := strings.Cut(line, ": ")
		code[name] = strings.Split(rest, " ")
	}
	return code
}

// referenceBegin: a state without messages and gifts, in which no vertex rests.
func referenceBegin(g api.Graph, program string) state {
	n := len(g.Values)
	s := state{values: g.Values, rests: make([]bool, n), got: make([]int, n), all: referenceCombine(referenceProgram(program)["all"][0], nil)}
	for range n {
		s.in = append(s.in, referenceCombine(referenceProgram(program)["by"][0], nil))
	}
	return s
}

func referenceRun(g api.Graph, program string, limit int) api.Result {
	r, _ := referenceRunFrom(referenceBegin(g, program), g, program, limit)
	return r
}

// referenceRunFrom says the document's words on runs over again, with lists of messages that are combined when all are there. It also tells the states ahead of all steps that were begun.
func referenceRunFrom(s state, g api.Graph, program string, limit int) (api.Result, []state) {
	code := referenceProgram(program)
	var begun []state
	for {
		active := []int{}
		for i := range s.values {
			if s.step == 0 || !s.rests[i] || s.got[i] > 0 {
				active = append(active, i)
			}
		}
		if len(active) == 0 {
			return api.Result{Outcome: api.Quiet, Step: s.step, Values: s.values}, begun
		}
		if s.step >= limit {
			return api.Result{Outcome: api.Capped, Step: s.step, Values: s.values}, begun
		}
		begun = append(begun, s)
		next, failed, ok := referenceStep(s, active, g, code)
		if !ok {
			return api.Result{Outcome: api.Faulted, Step: s.step, Vertex: failed, Values: s.values}, begun
		}
		s = next
	}
}

func referenceStep(s state, active []int, g api.Graph, code map[string][]string) (state, int, bool) {
	next := state{step: s.step + 1, values: slices.Clone(s.values), rests: slices.Clone(s.rests)}
	sent := make([][]int64, len(s.values))
	var gifts []int64
	for _, i := range active {
		edges := slices.DeleteFunc(slices.Clone(g.Edges), func(e api.Edge) bool { return e.From != i })
		seen := map[string]int64{"value": s.values[i], "old": s.values[i], "in": s.in[i], "got": int64(s.got[i]), "step": int64(s.step), "id": int64(i), "deg": int64(len(edges)), "all": s.all}
		failed := false
		ask := func(name string) int64 {
			r := codeReference{seen: seen}
			if failed || !r.do(code[name]) {
				failed = true
				return 0
			}
			return r.stack[0]
		}
		next.values[i] = ask("new")
		seen["value"] = next.values[i]
		if ask("go") != 0 {
			for _, e := range edges {
				seen["weight"] = e.Weight
				sent[e.To] = append(sent[e.To], ask("msg"))
			}
		}
		next.rests[i] = ask("halt") != 0
		gifts = append(gifts, ask("give"))
		if failed {
			return state{}, i, false
		}
	}
	for _, mail := range sent {
		next.got = append(next.got, len(mail))
		next.in = append(next.in, referenceCombine(code["by"][0], mail))
	}
	next.all = referenceCombine(code["all"][0], gifts)
	return next, 0, true
}

// compareRun tells how the run ended.
func compareRun(t *testing.T, graph, program string, limit int) api.Result {
	t.Helper()
	g, e, _ := stride.Parse(graph)
	if e != api.OK {
		t.Fatalf("Parse(%q) = %d", graph, e)
	}
	if e, at := stride.Compile(program); e != api.OK {
		t.Fatalf("Compile(%q) = %d, %d", program, e, at)
	}
	want := referenceRun(g, program, limit)
	r, e := stride.Run(graph, program, limit)
	if e != api.OK || r.Outcome != want.Outcome || r.Step != want.Step || r.Vertex != want.Vertex || !slices.Equal(r.Values, want.Values) {
		t.Fatalf("Run(%q, %q, %d) = %v, %d, want %v", graph, program, limit, r, e, want)
	}
	return r
}

// chance makes graphs and programs by chance, always the same ones.
type chance struct{ *rand.Rand }

func (c chance) of(texts ...string) string { return texts[c.Intn(len(texts))] }

func (c chance) number() string {
	return c.of("0", "1", "2", "3", "-1", "-2", "7", "1000000000", "-1000000000", strconv.Itoa(c.Intn(41)-20))
}

func (c chance) graph(most int) string {
	n := c.Intn(most + 1)
	var l []string
	for i := range n {
		l = append(l, string(rune('A'+i*37))+" "+c.number())
	}
	for range c.Intn(3*n + 1) {
		l = append(l, string(rune('A'+c.Intn(n)*37))+">"+string(rune('A'+c.Intn(n)*37))+" "+c.number())
	}
	c.Shuffle(len(l), func(i, j int) { l[i], l[j] = l[j], l[i] })
	return strings.Join(l, "\n")
}

// grow tells words that begin at this height, and the height at which they end.
func (c chance) grow(height, left int) ([]string, int) {
	all := []string{"value", "old", "in", "got", "step", "id", "deg", "all", "+", "-", "*", "/", "%", "<", "=", "min", "max", "dup", "drop", "swap", "over", "?"}
	var words []string
	for range left {
		next := c.of(c.of(all...), c.of(all...), c.of(all...), c.number(), "loop")
		switch {
		case next == "loop" && height < 12:
			inner, end := c.grow(height, c.Intn(4))
			words = append(words, c.of("0", "1", "2", "3", "9", "30", "step", "got", "value"), "[")
			words = append(words, inner...)
			for ; end < height; end++ {
				words = append(words, c.number())
			}
			for ; end > height; end-- {
				words = append(words, "drop")
			}
			words = append(words, "]")
		case next != "loop" && effects[next][0] <= height && height < 12:
			put := effects[next]
			if _, err := strconv.Atoi(next); err == nil {
				put = [2]int{0, 1}
			}
			words, height = append(words, next), height+put[1]-put[0]
		}
	}
	return words, height
}

func (c chance) code() string {
	words, height := c.grow(0, c.Intn(12))
	for ; height > 1; height-- {
		words = append(words, c.of("+", "-", "max"))
	}
	if height == 0 {
		words = append(words, c.of("value", "in", "step", c.number()))
	}
	return strings.Join(words, " ")
}

func (c chance) program() string {
	return program(
		"new: "+c.of(c.code(), c.code(), "value in +", "value 1 +"),
		"go: "+c.of(c.code(), "1", "0", "value", "step 3 <", "id step ="),
		"msg: "+c.of(c.code(), "weight", "value weight +", "weight value /", "weight got - 7 %"),
		"halt: "+c.of(c.code(), "1", "0", "step 2 < 0 =", "id step <", "got 0 ="),
		"give: "+c.of(c.code(), "value", "1", "in"),
		"by: "+c.of("min", "max", "sum"),
		"all: "+c.of("min", "max", "sum"),
	)
}

func TestRunAgainstReference(t *testing.T) {
	c := chance{rand.New(rand.NewSource(3))}
	ends := map[api.Outcome]int{}
	late := map[api.Outcome]int{}
	for range 30000 {
		r := compareRun(t, c.graph(5), c.program(), c.Intn(9))
		ends[r.Outcome]++
		if r.Step > 1 {
			late[r.Outcome]++
		}
	}
	for _, how := range []api.Outcome{api.Quiet, api.Capped, api.Faulted} {
		if ends[how] < 2000 || late[how] < 100 {
			t.Errorf("too few of a kind were tried: %v, behind step 1 %v", ends, late)
		}
	}
}

// graphs of several kinds, with no weight below 0.
func mixedGraphs() []string {
	c := chance{rand.New(rand.NewSource(5))}
	name := func(i int) string { return string(rune('A' + i)) }
	edge := func(from, to, weight int) string { return name(from) + ">" + name(to) + " " + strconv.Itoa(weight) }
	var chain, ring, star, full, crowd []string
	for i := range 40 {
		chain = append(chain, name(i)+" "+strconv.Itoa(i*i%17))
		if i > 0 {
			chain = append(chain, edge(i, i-1, i))
		}
	}
	for i := range 7 {
		ring = append(ring, name(i)+" "+strconv.Itoa(20-i), edge(i, (i+1)%7, 3))
		star = append(star, name(i)+" "+strconv.Itoa(i*5%7), edge(3, i, i), edge(i, 3, 1))
		full = append(full, name(i)+" "+strconv.Itoa(i*3%7*10))
		for k := range 7 {
			full = append(full, edge(i, k, i*k%5))
		}
	}
	for i := range 60 {
		crowd = append(crowd, name(i)+" "+c.of("1000000000", "999999990", strconv.Itoa(c.Intn(100))))
	}
	for range 180 {
		crowd = append(crowd, edge(c.Intn(60), c.Intn(60), c.Intn(50)))
	}
	apart := []string{"a 5", "b 6", "c 7", "a>a 0", "b>c 1", "b>c 0"}
	var texts []string
	for _, l := range [][]string{nil, {"x 3"}, apart, chain, ring, star, full, crowd} {
		texts = append(texts, strings.Join(l, "\n"))
	}
	return texts
}

// settle puts what goes along edges to their ends till nothing changes.
func settle(g api.Graph, values []int64, along func(e api.Edge, from, to int64) int64) []int64 {
	for changed := true; changed; {
		changed = false
		for _, e := range g.Edges {
			if v := along(e, values[e.From], values[e.To]); v != values[e.To] {
				values[e.To], changed = v, true
			}
		}
	}
	return values
}

// referenceRank: all vertices share what they have twenty times; the last time, those to which nothing comes rest.
func referenceRank(g api.Graph) []int64 {
	values := make([]int64, len(g.Values))
	for i := range values {
		values[i] = 1000000
	}
	deg := make([]int64, len(values))
	for _, e := range g.Edges {
		deg[e.From]++
	}
	for s := 1; s <= 20; s++ {
		in, got := make([]int64, len(values)), make([]bool, len(values))
		for _, e := range g.Edges {
			in[e.To] += values[e.From] / deg[e.From]
			got[e.To] = true
		}
		for i := range values {
			if s < 20 || got[i] {
				values[i] = in[i]*85/100 + 150000
			}
		}
	}
	return values
}

// TestRunCatalogue: each program of the catalogue comes to what it is for, and goes the reference's way there.
func TestRunCatalogue(t *testing.T) {
	for _, graph := range mixedGraphs() {
		g, e, _ := stride.Parse(graph)
		if e != api.OK {
			t.Fatalf("Parse(%.60q) = %d", graph, e)
		}
		ids := make([]int64, len(g.Values))
		for i := range ids {
			ids[i] = int64(i)
		}
		for name, want := range map[string][]int64{
			"reach": settle(g, slices.Clone(g.Values), func(e api.Edge, from, to int64) int64 {
				if from >= far {
					return to
				}
				return min(to, from+e.Weight)
			}),
			"least": settle(g, ids, func(_ api.Edge, from, to int64) int64 { return min(from, to) }),
			"most":  settle(g, slices.Clone(g.Values), func(_ api.Edge, from, to int64) int64 { return max(from, to) }),
			"rank":  referenceRank(g),
		} {
			text := named(t, name)
			if r, e := stride.Run(graph, text, 200); e != api.OK || r.Outcome != api.Quiet || r.Vertex != 0 || !slices.Equal(r.Values, want) {
				t.Errorf("Run(%.40q, %s, 200) = %v, %d, want %v", graph, name, r, e, want)
			}
			for _, limit := range []int{0, 1, 2, 3, 20, 21, 200} {
				compareRun(t, graph, text, limit)
			}
		}
	}
}
