package programs

// word: a word of code, and what is done on a machine when it is come to.
type word struct {
	name        string
	needsWeight bool
	do          func(m *machine)
}

// words: all words of code but the numbers. What a word takes and puts is told by what it does alone: the check of the stack does it too.
func words() []word {
	return []word{
		{name: "value", do: func(m *machine) { m.put(m.sight.Value) }},
		{name: "old", do: func(m *machine) { m.put(m.sight.old) }},
		{name: "in", do: func(m *machine) { m.put(m.sight.In) }},
		{name: "got", do: func(m *machine) { m.put(m.sight.Got) }},
		{name: "step", do: func(m *machine) { m.put(m.sight.Step) }},
		{name: "id", do: func(m *machine) { m.put(m.sight.ID) }},
		{name: "deg", do: func(m *machine) { m.put(m.sight.Deg) }},
		{name: "all", do: func(m *machine) { m.put(m.sight.All) }},
		{name: "weight", needsWeight: true, do: func(m *machine) { m.put(m.sight.weight) }},
		{name: "+", do: func(m *machine) { lower, upper := m.takeTwo(); m.put(lower + upper) }},
		{name: "-", do: func(m *machine) { lower, upper := m.takeTwo(); m.put(lower - upper) }},
		{name: "*", do: func(m *machine) { lower, upper := m.takeTwo(); m.put(lower * upper) }},
		{name: "/", do: func(m *machine) { lower, upper := m.takeQuotient(); m.put(lower / upper) }},
		{name: "%", do: func(m *machine) { lower, upper := m.takeQuotient(); m.put(lower % upper) }},
		{name: "<", do: func(m *machine) { lower, upper := m.takeTwo(); m.putTruth(lower < upper) }},
		{name: "=", do: func(m *machine) { lower, upper := m.takeTwo(); m.putTruth(lower == upper) }},
		{name: "min", do: func(m *machine) { lower, upper := m.takeTwo(); m.put(min(lower, upper)) }},
		{name: "max", do: func(m *machine) { lower, upper := m.takeTwo(); m.put(max(lower, upper)) }},
		{name: "dup", do: func(m *machine) { top := m.take(); m.put(top); m.put(top) }},
		{name: "drop", do: func(m *machine) { m.take() }},
		{name: "swap", do: func(m *machine) { lower, upper := m.takeTwo(); m.put(upper); m.put(lower) }},
		{name: "over", do: func(m *machine) { lower, upper := m.takeTwo(); m.put(lower); m.put(upper); m.put(lower) }},
		{name: "?", do: func(m *machine) { m.choose() }},
		{name: "[", do: func(m *machine) { m.beginLoop() }},
		{name: "]", do: func(m *machine) { m.endLoop() }},
	}
}
