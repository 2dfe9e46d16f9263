// Package programs: what a program's text says, what it does at a vertex, and the programs of the catalogue (P4 to P6).
package programs

import (
	"strings"

	"stride/api"
	"stride/number"
)

// shape: how a line of a program must be: its name, whether it has code, and whether weight is a word there.
type shape struct {
	name      string
	isCode    bool
	hasWeight bool
}

// Where the lines of a program stand.
const (
	newLine = iota
	goLine
	msgLine
	haltLine
	giveLine
	byLine
	allLine
	howManyLines
)

// shapes: the lines of a program, in their order.
var shapes = [howManyLines]shape{
	newLine:  {"new", true, false},
	goLine:   {"go", true, false},
	msgLine:  {"msg", true, true},
	haltLine: {"halt", true, false},
	giveLine: {"give", true, false},
	byLine:   {"by", false, false},
	allLine:  {"all", false, false},
}

// line: what a line of a program says, by its shape: code, or how values are made one.
type line struct {
	code        code
	combination Combination
}

// Program: what all lines of a text say.
type Program struct {
	lines [howManyLines]line
}

// By tells how messages are combined.
func (p *Program) By() Combination { return p.lines[byLine].combination }

// All tells how what is given is combined.
func (p *Program) All() Combination { return p.lines[allLine].combination }

// Compile reads a program's text; with an error there is no program, and it tells the line that is at fault.
func Compile(text string) (*Program, api.Errno, int) {
	if len(text) > api.MaxProgram {
		return nil, api.ErrLong, 0
	}
	p, at, ok := readLines(strings.Split(text, "\n"))
	if !ok {
		return nil, api.ErrForm, at
	}
	for at, l := range p.lines {
		if shapes[at].isCode && !l.code.keepsToStack() {
			return nil, api.ErrStack, at
		}
	}
	return p, api.OK, 0
}

// readLines reads all lines, or tells the first wrong one.
func readLines(texts []string) (*Program, int, bool) {
	p := new(Program)
	known := words()
	for at, s := range shapes {
		if at == len(texts) {
			return nil, at, false
		}
		l, ok := readLine(texts[at], s, known)
		if !ok {
			return nil, at, false
		}
		p.lines[at] = l
	}
	return p, howManyLines, len(texts) == howManyLines
}

func readLine(text string, s shape, known []word) (line, bool) {
	texts, ok := splitLine(text, s.name)
	if !ok {
		return line{}, false
	}
	if s.isCode {
		c, ok := readCode(texts, known, s.hasWeight)
		return line{code: c}, ok
	}
	how, ok := findCombination(texts[0])
	return line{combination: how}, ok && len(texts) == 1
}

// splitLine tells the words behind a line's name; where a blank is too many, one of them is empty.
func splitLine(text, name string) ([]string, bool) {
	rest, ok := strings.CutPrefix(text, name+": ")
	return strings.Split(rest, " "), ok
}

// readCode tells the code that the words make, and whether all are words and the brackets belong together.
func readCode(texts []string, known []word, hasWeight bool) (code, bool) {
	var c code
	var open []int
	for at, text := range texts {
		w, ok := findWord(text, known)
		if !ok || w.needsWeight && !hasWeight {
			return nil, false
		}
		c = append(c, order{do: w.do})
		switch text {
		case "[":
			open = append(open, at)
		case "]":
			if len(open) == 0 {
				return nil, false
			}
			last := open[len(open)-1]
			open = open[:len(open)-1]
			c[at].mate, c[last].mate = last, at
		}
	}
	return c, len(open) == 0
}

func findWord(text string, known []word) (word, bool) {
	if n, ok := number.Read(text); ok {
		return word{do: func(m *machine) { m.put(n) }}, true
	}
	for _, w := range known {
		if w.name == text {
			return w, true
		}
	}
	return word{}, false
}
