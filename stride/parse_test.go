package stride_test

import (
	"math/big"
	"reflect"
	"regexp"
	"slices"
	"sort"
	"strconv"
	"strings"
	"testing"

	"stride/api"
	"stride/stride"
)

func lines(l ...string) string { return strings.Join(l, "\n") }

// checkGraph: the text is the graph with these names, values and edges.
func checkGraph(t *testing.T, text, names string, values []int64, edges []api.Edge) {
	t.Helper()
	g, e, at := stride.Parse(text)
	if e != api.OK || at != 0 || string(g.Names) != names || !slices.Equal(g.Values, values) || !slices.Equal(g.Edges, edges) {
		t.Errorf("Parse(%.60q) = %q, %v, %v, %d, %d", text, string(g.Names), g.Values, g.Edges, e, at)
	}
}

// checkNoGraph: the text is refused with this error, at this place, and nothing else is told.
func checkNoGraph(t *testing.T, text string, want api.Errno, wantAt int) {
	t.Helper()
	g, e, at := stride.Parse(text)
	if e != want || at != wantAt || g.Names != nil || g.Values != nil || g.Edges != nil {
		t.Errorf("Parse(%.60q) = %v, %d, %d, want %d, %d", text, g, e, at, want, wantAt)
	}
}

func TestParseReadsGraphs(t *testing.T) {
	checkGraph(t, lines("b 2", "a 1", "", "b>a -7", "ä 0", "a>ä 5"), "abä", []int64{1, 2, 0}, []api.Edge{{From: 0, To: 2, Weight: 5}, {From: 1, To: 0, Weight: -7}})
	checkGraph(t, "", "", nil, nil)
	checkGraph(t, "\n", "", nil, nil)
	checkGraph(t, "\n\na 1\n\n", "a", []int64{1}, nil)
	checkGraph(t, "a 1000000000\nb -1000000000\na>b -1000000000\nb>a 1000000000", "ab", []int64{1000000000, -1000000000}, []api.Edge{{From: 0, To: 1, Weight: -1000000000}, {From: 1, To: 0, Weight: 1000000000}})
}

func TestParseNamesAreRunes(t *testing.T) {
	checkGraph(t, lines("\U0010ffff 1", "\ufffd 2", "\u0000 3", "\u00a0 4", "\u2028 5", "\u0301 6", "\r 7", "\t 8", "- 9", "0 10", ": 11", "< 12"),
		"\u0000\t\r-0:<\u00a0\u0301\u2028\ufffd\U0010ffff", []int64{3, 8, 7, 9, 10, 11, 12, 4, 6, 5, 2, 1}, nil)
	checkGraph(t, lines("0 1", "- -1", "->0 0", "0>- -5"), "-0", []int64{-1, 1}, []api.Edge{{From: 0, To: 1, Weight: 0}, {From: 1, To: 0, Weight: -5}})
	checkGraph(t, lines("\uffff 1", "\U00010000 2", "\uffff>\U00010000 3"), "\uffff\U00010000", []int64{1, 2}, []api.Edge{{From: 0, To: 1, Weight: 3}})
}

func TestParseOrdersEdges(t *testing.T) {
	checkGraph(t, lines("b>a 9", "b>b 8", "b>a 7", "c 0", "a>c 6", "b>a 8", "a>a 5", "c>a 4", "a 0", "a>c -6", "b 0", "a>b 3"), "abc", []int64{0, 0, 0}, []api.Edge{
		{From: 0, To: 0, Weight: 5}, {From: 0, To: 1, Weight: 3}, {From: 0, To: 2, Weight: 6}, {From: 0, To: 2, Weight: -6},
		{From: 1, To: 0, Weight: 9}, {From: 1, To: 0, Weight: 7}, {From: 1, To: 0, Weight: 8}, {From: 1, To: 1, Weight: 8}, {From: 2, To: 0, Weight: 4}})
	text := "a 0\nb 0\nc 0"
	for i := range 250 { // so many, and so mixed, that a sort that is not stable shows itself
		pair := i * i % 7 % 6
		text += "\n" + "aabbcc"[pair:pair+1] + ">" + "abcabc"[pair:pair+1] + " " + strconv.Itoa(i)
	}
	compareParse(t, text)
}

func TestParseTellsNoRune(t *testing.T) {
	for text, at := range map[string]int{
		"a \xff": 2, "\xff": 0, "\x80 1": 0, "ä 1\n\xc3": 5, "\ufffd 1\n\xff": 6, "\ufffd\ufffd\xbf": 6,
		"a 1\n\xc3\x28 1": 4, "\xc0\xaf 1": 0, "\xed\xa0\x80 1": 0, "\xf4\x90\x80\x80 1": 0, "\U0001f600\xf0\x9f\x98 1": 4, "\xef\xbf 1": 0,
		"wrong\nform\xfe": 10, "a 1\na 1\n\xff": 8, "a>b 1\n\xff": 6,
	} {
		checkNoGraph(t, text, api.ErrRune, at)
	}
	checkNoGraph(t, strings.Repeat("\n", 3999)+"\xff", api.ErrRune, 3999)
}

func TestParseTellsWrongLines(t *testing.T) {
	for _, line := range []string{
		" ", "  ", "a", "aa", "a ", "a  1", "a 1 ", " a 1", "ab 1", "  1", "> 1", ">> 1", "a>", "a> 1", "a>b", "a>b ", "a>b  1", "a>b 1 ", "a> b 1", "a >b 1", "a>  1", "a>> 1", ">>a 1", " >a 1", "a>bc 1", "ab>c 1", "a>b>c 1",
		"a\t1", "a\u00a01", "a 1\r", "a 1\t", "a 01", "a -0", "a 00", "a -01", "a +1", "a --1", "a -", "a x", "a 1x", "a 1.5", "a 0x1", "a 1 2", "a ٣", "a 1000000001", "a -1000000001", "a 9223372036854775809", "a 18446744073709551617",
		"a>b 01", "a>b -0", "a>b x", "a>b 1000000001", "a>b -1000000001", "a=b 1", "a-b 1", "e\u0301 1", "a:1", "\ufeffa 1",
	} {
		checkNoGraph(t, line, api.ErrForm, 0)
		checkNoGraph(t, lines("b 1", "", "a>b 1", line, line), api.ErrForm, 3)
	}
}

func TestParseTellsTheErrorNamedFirst(t *testing.T) {
	many := manyVertices(65)
	manyEdges := strings.Repeat("a>a 1\n", 257)
	checkNoGraph(t, lines("a 1", "a 2"), api.ErrTwice, 1)
	checkNoGraph(t, lines("", "a 1", "", "b 1", "b 1", "a 1"), api.ErrTwice, 4)
	checkNoGraph(t, lines("a 1", "a>z 1", "a 1"), api.ErrTwice, 2)
	checkNoGraph(t, lines("a 1", "a 1", "a>z 1", "x"), api.ErrForm, 3)
	checkNoGraph(t, lines("a>b 1", "a 1"), api.ErrName, 0)
	checkNoGraph(t, lines("b>a 1", "a 1"), api.ErrName, 0)
	checkNoGraph(t, lines("a 1", "", "b>a 1", "a>c 1", "b 1", "d>d 1"), api.ErrName, 3)
	checkNoGraph(t, many+"\na>a 1", api.ErrName, 65)
	checkNoGraph(t, many+"\n\u0400 1", api.ErrTwice, 65)
	checkNoGraph(t, many+"\n\u0400", api.ErrForm, 65)
	checkNoGraph(t, manyEdges, api.ErrName, 0)
	checkNoGraph(t, manyEdges+"a 1\na 1", api.ErrTwice, 258)
	checkNoGraph(t, strings.Repeat("a 1\n", 1000)+"\xff", api.ErrLong, 0)
}

func manyVertices(n int) string {
	var l []string
	for i := range n {
		l = append(l, string(rune(0x400+n-1-i))+" 1")
	}
	return strings.Join(l, "\n")
}

func TestParseLimits(t *testing.T) {
	if g, e, at := stride.Parse(manyVertices(64)); e != api.OK || at != 0 || len(g.Names) != 64 || len(g.Values) != 64 || !slices.IsSorted(g.Names) {
		t.Errorf("64 vertices: %d, %d, %d", len(g.Names), e, at)
	}
	checkNoGraph(t, manyVertices(65), api.ErrMany, 0)
	if g, e, at := stride.Parse("a 1" + strings.Repeat("\na>a 2", 256)); e != api.OK || at != 0 || len(g.Edges) != 256 {
		t.Errorf("256 edges: %d, %d, %d", len(g.Edges), e, at)
	}
	checkNoGraph(t, "a 1"+strings.Repeat("\na>a 2", 257), api.ErrMany, 0)
	both := manyVertices(64) + strings.Repeat("\n\u0400>\u0401 2", 256)
	if g, e, at := stride.Parse(both); e != api.OK || at != 0 || len(g.Names) != 64 || len(g.Edges) != 256 {
		t.Errorf("64 vertices and 256 edges: %d, %d, %d, %d", len(g.Names), len(g.Edges), e, at)
	}
	checkGraph(t, strings.Repeat("\n", 3997)+"a 1", "a", []int64{1}, nil)
	checkNoGraph(t, strings.Repeat("\n", 3998)+"a 1", api.ErrLong, 0)
	checkNoGraph(t, strings.Repeat("ä", 2000), api.ErrForm, 0) // bytes count, not runes
	checkNoGraph(t, strings.Repeat("ä", 2001), api.ErrLong, 0)
	checkNoGraph(t, strings.Repeat("\xff", 4001), api.ErrLong, 0)
	checkNoGraph(t, strings.Repeat("a", 1<<22), api.ErrLong, 0)
}

var (
	vertexForm = regexp.MustCompile(`^([^ >\n]) (0|-?[1-9][0-9]*)$`)
	edgeForm   = regexp.MustCompile(`^([^ >\n])>([^ >\n]) (0|-?[1-9][0-9]*)$`)
)

func smallNumber(digits string) (int64, bool) {
	n, _ := new(big.Int).SetString(digits, 10)
	return n.Int64(), new(big.Int).Abs(n).Cmp(big.NewInt(api.MaxNumber)) <= 0
}

// firstChange: the first byte in which two texts differ, -1 if they don't.
func firstChange(a, b string) int {
	for i := range min(len(a), len(b)) {
		if a[i] != b[i] {
			return i
		}
	}
	if len(a) != len(b) {
		return min(len(a), len(b))
	}
	return -1
}

// referenceParse says the document's words over again by other means.
func referenceParse(text string) (api.Graph, api.Errno, int) {
	if at := firstChange(text, strings.ToValidUTF8(text, "\x00")); at >= 0 {
		return api.Graph{}, api.ErrRune, at
	}
	values, twice, absent := map[string]int64{}, -1, -1
	type named struct {
		at       int
		from, to string
		weight   int64
	}
	var edges []named
	for at, line := range strings.Split(text, "\n") {
		if v := vertexForm.FindStringSubmatch(line); v != nil {
			n, ok := smallNumber(v[2])
			if !ok {
				return api.Graph{}, api.ErrForm, at
			}
			if _, there := values[v[1]]; there && twice < 0 {
				twice = at
			}
			values[v[1]] = n
		} else if v := edgeForm.FindStringSubmatch(line); v != nil {
			n, ok := smallNumber(v[3])
			if !ok {
				return api.Graph{}, api.ErrForm, at
			}
			edges = append(edges, named{at, v[1], v[2], n})
		} else if line != "" {
			return api.Graph{}, api.ErrForm, at
		}
	}
	if twice >= 0 {
		return api.Graph{}, api.ErrTwice, twice
	}
	var g api.Graph
	for name := range values {
		g.Names = append(g.Names, []rune(name)[0])
	}
	slices.Sort(g.Names)
	for _, name := range g.Names {
		g.Values = append(g.Values, values[string(name)])
	}
	for _, e := range edges {
		from, to := slices.Index(g.Names, []rune(e.from)[0]), slices.Index(g.Names, []rune(e.to)[0])
		if (from < 0 || to < 0) && absent < 0 {
			absent = e.at
		}
		g.Edges = append(g.Edges, api.Edge{From: from, To: to, Weight: e.weight})
	}
	if absent >= 0 {
		return api.Graph{}, api.ErrName, absent
	}
	sort.SliceStable(g.Edges, func(i, j int) bool {
		a, b := g.Edges[i], g.Edges[j]
		return a.From < b.From || a.From == b.From && a.To < b.To
	})
	return g, api.OK, 0
}

func compareParse(t *testing.T, text string) {
	t.Helper()
	g, e, at := stride.Parse(text)
	wantG, wantE, wantAt := referenceParse(text)
	if e != wantE || at != wantAt || !slices.Equal(g.Names, wantG.Names) || !slices.Equal(g.Values, wantG.Values) || !slices.Equal(g.Edges, wantG.Edges) {
		t.Fatalf("Parse(%q) = %v, %d, %d, want %v, %d, %d", text, g, e, at, wantG, wantE, wantAt)
	}
}

// compareGrown: all texts of up to so many pieces of the alphabet.
func compareGrown(t *testing.T, text string, alphabet []string, left int) {
	t.Helper()
	compareParse(t, text)
	for _, next := range alphabet {
		if left > 0 {
			compareGrown(t, text+next, alphabet, left-1)
		}
	}
}

func TestParseAgainstReference(t *testing.T) {
	compareGrown(t, "", []string{"a", "é", ">", " ", "1", "0", "-", "\n"}, 5)
	compareGrown(t, "", []string{"a", " ", "1", "\xc3", "\xa4", "\xe2", "\xef", "\xbf", "\xbd", "\xff"}, 4)
	pool := []string{"", "a 1", "a 2", "b -3", "ü 0", "a>a 1", "a>b 2", "b>a 3", "ü>a 4", "b>ü 5", "a>b 6", "a>c 1", "a  1", "a>b 01", "b 1000000001"}
	for i := range len(pool) * len(pool) * len(pool) * len(pool) {
		var l []string
		for rest := i; rest > 0; rest /= len(pool) {
			l = append(l, pool[rest%len(pool)])
		}
		compareParse(t, strings.Join(l, "\n"))
	}
}

// TestParseAnswersAreNew: P2, what is written into one answer, its spare room too, shows in no other.
func TestParseAnswersAreNew(t *testing.T) {
	text := lines("c 3", "a 1", "b 2", "c>a 4", "a>b 5", "a>c 6", "b>b 7", "c>c 8")
	first, _, _ := stride.Parse(text)
	second, _, _ := stride.Parse(text)
	want, _, _ := referenceParse(text)
	clear(first.Names[:cap(first.Names)])
	clear(first.Values[:cap(first.Values)])
	clear(first.Edges[:cap(first.Edges)])
	third, _, _ := stride.Parse(text)
	for _, g := range []api.Graph{second, third} {
		if !reflect.DeepEqual(g, want) {
			t.Errorf("a graph that is told beside another one: %v, want %v", g, want)
		}
	}
}
