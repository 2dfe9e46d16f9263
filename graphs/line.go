package graphs

import "stride/number"

type lineKind int

const (
	emptyLine lineKind = iota
	vertexLine
	edgeLine
)

// line: what one line says; from is the vertex's own name where the line is a vertex.
type line struct {
	kind     lineKind
	from, to rune
	number   int64
}

// readLine tells what a line says, and whether it is of one of the kinds.
func readLine(text []rune) (line, bool) {
	switch {
	case len(text) == 0:
		return line{}, true
	case isVertexHead(text):
		n, ok := number.Read(string(text[2:]))
		return line{kind: vertexLine, from: text[0], number: n}, ok
	case isEdgeHead(text):
		n, ok := number.Read(string(text[4:]))
		return line{kind: edgeLine, from: text[0], to: text[2], number: n}, ok
	}
	return line{}, false
}

func isVertexHead(text []rune) bool {
	return len(text) >= 2 && isName(text[0]) && text[1] == ' '
}

func isEdgeHead(text []rune) bool {
	return len(text) >= 4 && isName(text[0]) && text[1] == '>' && isName(text[2]) && text[3] == ' '
}

// isName leaves the line feed out: no line has one.
func isName(r rune) bool { return r != ' ' && r != '>' }
