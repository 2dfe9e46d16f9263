// Package graphs: what a graph's text says (P3).
package graphs

import (
	"cmp"
	"slices"
	"strings"
	"unicode/utf8"

	"stride/api"
	"stride/ordered"
)

// vertices: the first values by the names.
type vertices = ordered.Table[rune, int64]

// Parse reads a graph's text; with an error it tells the line or byte that is at fault.
func Parse(text string) (api.Graph, api.Errno, int) {
	if len(text) > api.MaxGraph {
		return refuse(api.ErrLong, 0)
	}
	if at, found := findNoRune(text); found {
		return refuse(api.ErrRune, at)
	}
	lines, at, ok := readLines(text)
	if !ok {
		return refuse(api.ErrForm, at)
	}
	named, at, ok := gatherVertices(lines)
	if !ok {
		return refuse(api.ErrTwice, at)
	}
	edges, at, ok := gatherEdges(lines, named)
	if !ok {
		return refuse(api.ErrName, at)
	}
	if named.Len() > api.MaxVertices || len(edges) > api.MaxEdges {
		return refuse(api.ErrMany, 0)
	}
	return makeGraph(named, edges), api.OK, 0
}

func refuse(e api.Errno, at int) (api.Graph, api.Errno, int) {
	return api.Graph{}, e, at
}

// findNoRune tells the first byte that belongs to no rune.
func findNoRune(text string) (int, bool) {
	for at, r := range text {
		if r != utf8.RuneError {
			continue
		}
		// U+FFFD may stand in the text itself; only in place of a wrong byte is it one byte long.
		if _, size := utf8.DecodeRuneInString(text[at:]); size == 1 {
			return at, true
		}
	}
	return 0, false
}

// readLines reads all lines, the empty ones too, so that they keep their numbers; or tells the first wrong one.
func readLines(text string) ([]line, int, bool) {
	var lines []line
	for at, words := range strings.Split(text, "\n") {
		l, ok := readLine([]rune(words))
		if !ok {
			return nil, at, false
		}
		lines = append(lines, l)
	}
	return lines, 0, true
}

// gatherVertices tells the vertices, or the first line that names one again.
func gatherVertices(lines []line) (*vertices, int, bool) {
	named := new(vertices)
	for at, l := range lines {
		if l.kind == vertexLine && !named.Add(l.from, l.number) {
			return nil, at, false
		}
	}
	return named, 0, true
}

// gatherEdges tells the edges in the order of their lines, or the first line with a name that no vertex has.
func gatherEdges(lines []line, named *vertices) ([]api.Edge, int, bool) {
	var edges []api.Edge
	for at, l := range lines {
		if l.kind != edgeLine {
			continue
		}
		from, isFrom := named.Place(l.from)
		to, isTo := named.Place(l.to)
		if !isFrom || !isTo {
			return nil, at, false
		}
		edges = append(edges, api.Edge{From: from, To: to, Weight: l.number})
	}
	return edges, 0, true
}

func makeGraph(named *vertices, edges []api.Edge) api.Graph {
	g := api.Graph{Edges: edges}
	for name, value := range named.All() {
		g.Names = append(g.Names, name)
		g.Values = append(g.Values, value)
	}
	// Stable: edges between the same two vertices stay in the order of their lines.
	slices.SortStableFunc(g.Edges, func(a, b api.Edge) int {
		return cmp.Or(cmp.Compare(a.From, b.From), cmp.Compare(a.To, b.To))
	})
	return g
}
