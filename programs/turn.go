package programs

import "stride/api"

// Turn: what comes of a vertex in a step. It has a message for each edge from the vertex, in their order, or none.
type Turn struct {
	Value    int64
	Messages []int64
	Rests    bool
	Given    int64
}

// Turn works out what comes of the vertex that sees this and has these edges; it tells false if a word fails.
func (p *Program) Turn(seen Sight, edges []api.Edge) (t Turn, ok bool) {
	defer func() {
		switch why := recover(); why {
		case nil:
		case errZero, errFuel:
			t, ok = Turn{}, false
		default:
			// No word gave up: this must not pass for a run that ends as it should.
			panic(why)
		}
	}()
	seen.old = seen.Value
	t.Value = p.lines[newLine].code.answer(seen)
	seen.Value = t.Value
	if p.lines[goLine].code.answer(seen) != 0 {
		t.Messages = p.messages(seen, edges)
	}
	t.Rests = p.lines[haltLine].code.answer(seen) != 0
	t.Given = p.lines[giveLine].code.answer(seen)
	return t, true
}

func (p *Program) messages(seen Sight, edges []api.Edge) []int64 {
	var all []int64
	for _, e := range edges {
		seen.weight = e.Weight
		all = append(all, p.lines[msgLine].code.answer(seen))
	}
	return all
}
