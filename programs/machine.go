package programs

import (
	"errors"

	"stride/api"
)

// What a word gives up with, by panic.
var (
	errStack = errors.New("the code does not keep to the stack")
	errZero  = errors.New("a division by 0")
	errFuel  = errors.New("more words than may be done")
)

// order: a word in its place; mate is the place of the other bracket, if it is one.
type order struct {
	do   func(m *machine)
	mate int
}

type code []order

// Sight: what the words that stand for something stand for.
type Sight struct {
	Value, In, Got, Step, ID, Deg, All int64

	old, weight int64
}

// loop: how often what stands between two brackets is yet to be done, and the height behind the first.
type loop struct {
	left   int64
	height int
}

// machine does code, word by word.
type machine struct {
	code   code
	at     int
	fuel   int
	sight  Sight
	stack  [api.MaxStack]int64
	height int
	loops  []loop
	dry    bool
}

// keepsToStack does the code on a dry machine: how many values a word takes and puts hangs on none of them, so that one way through the code, each word once, shows all.
func (c code) keepsToStack() (keeps bool) {
	defer func() {
		if recover() != nil {
			keeps = false
		}
	}()
	m := machine{code: c, fuel: len(c), dry: true}
	m.run()
	return m.height == 1
}

// answer does code that keeps to the stack, and tells the one value that it ends with.
func (c code) answer(seen Sight) int64 {
	m := machine{code: c, fuel: api.MaxFuel, sight: seen}
	m.run()
	return m.take()
}

func (m *machine) run() {
	for ; m.at < len(m.code); m.at++ {
		if m.fuel == 0 {
			panic(errFuel)
		}
		m.fuel--
		m.code[m.at].do(m)
	}
}

func (m *machine) put(value int64) {
	if m.height == len(m.stack) {
		panic(errStack)
	}
	m.stack[m.height] = value
	m.height++
}

// take tells 1 for every value of a dry machine: by that no division fails, and every loop is done just once.
func (m *machine) take() int64 {
	if m.height == 0 {
		panic(errStack)
	}
	m.height--
	if m.dry {
		return 1
	}
	return m.stack[m.height]
}

func (m *machine) takeTwo() (lower, upper int64) {
	upper = m.take()
	lower = m.take()
	return lower, upper
}

func (m *machine) takeQuotient() (lower, upper int64) {
	lower, upper = m.takeTwo()
	if upper == 0 {
		panic(errZero)
	}
	return lower, upper
}

func (m *machine) putTruth(truth bool) {
	if truth {
		m.put(1)
	} else {
		m.put(0)
	}
}

func (m *machine) choose() {
	second, third := m.takeTwo()
	if m.take() != 0 {
		m.put(second)
	} else {
		m.put(third)
	}
}

func (m *machine) beginLoop() {
	times := m.take()
	if times < 1 {
		m.at = m.code[m.at].mate
		return
	}
	m.loops = append(m.loops, loop{left: times, height: m.height})
}

func (m *machine) endLoop() {
	last := &m.loops[len(m.loops)-1]
	if m.height != last.height {
		panic(errStack)
	}
	last.left--
	if last.left > 0 {
		m.at = m.code[m.at].mate
		return
	}
	m.loops = m.loops[:len(m.loops)-1]
}
