// Package programs: what a program's text says, and the programs of the catalogue (P4, P5).
package programs

import (
	"strings"

	"stride/api"
	"stride/number"
)

// shape: how a line of a program must be: its name, whether it has code, and whether weight is a word there.
type shape struct {
	name      string
	isCode    bool
	hasWeight bool
}

// shapes: the lines of a program, in their order.
var shapes = [...]shape{
	{"new", true, false},
	{"go", true, false},
	{"msg", true, true},
	{"halt", true, false},
	{"give", true, false},
	{"by", false, false},
	{"all", false, false},
}

// Compile tells whether a text is a program; with an error it tells the line that is at fault.
func Compile(text string) (api.Errno, int) {
	if len(text) > api.MaxProgram {
		return api.ErrLong, 0
	}
	codes, at, ok := readLines(strings.Split(text, "\n"))
	if !ok {
		return api.ErrForm, at
	}
	for at, c := range codes {
		if shapes[at].isCode && !c.keepsToStack() {
			return api.ErrStack, at
		}
	}
	return api.OK, 0
}

// readLines reads the code of all lines (none for those that have no code), or tells the first wrong one.
func readLines(lines []string) ([]code, int, bool) {
	var codes []code
	known := words()
	for at, s := range shapes {
		if at == len(lines) {
			return nil, at, false
		}
		c, ok := readLine(lines[at], s, known)
		if !ok {
			return nil, at, false
		}
		codes = append(codes, c)
	}
	return codes, len(shapes), len(lines) == len(shapes)
}

func readLine(line string, s shape, known []word) (code, bool) {
	texts, ok := splitLine(line, s.name)
	if !ok {
		return nil, false
	}
	if s.isCode {
		return readCode(texts, known, s.hasWeight)
	}
	return nil, len(texts) == 1 && isCombination(texts[0])
}

// splitLine tells the words behind a line's name; where a blank is too many, one of them is empty.
func splitLine(line, name string) ([]string, bool) {
	rest, ok := strings.CutPrefix(line, name+": ")
	return strings.Split(rest, " "), ok
}

func isCombination(text string) bool {
	return text == "min" || text == "max" || text == "sum"
}

// readCode tells the code that the words make, and whether all are words and the brackets belong together.
func readCode(texts []string, known []word, hasWeight bool) (code, bool) {
	var c code
	var open []int
	for at, text := range texts {
		w, ok := findWord(text, known)
		if !ok || w.needsWeight && !hasWeight {
			return nil, false
		}
		c = append(c, order{do: w.do})
		switch text {
		case "[":
			open = append(open, at)
		case "]":
			if len(open) == 0 {
				return nil, false
			}
			last := open[len(open)-1]
			open = open[:len(open)-1]
			c[at].mate, c[last].mate = last, at
		}
	}
	return c, len(open) == 0
}

func findWord(text string, known []word) (word, bool) {
	if n, ok := number.Read(text); ok {
		return word{do: func(m *machine) { m.put(n) }}, true
	}
	for _, w := range known {
		if w.name == text {
			return w, true
		}
	}
	return word{}, false
}
