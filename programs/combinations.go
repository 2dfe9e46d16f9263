package programs

import "math"

// Combination: how values are made one; none at all are Nothing.
type Combination struct {
	name    string
	Nothing int64
	Join    func(a, b int64) int64
}

func combinations() []Combination {
	return []Combination{
		{"min", math.MaxInt64, func(a, b int64) int64 { return min(a, b) }},
		{"max", math.MinInt64, func(a, b int64) int64 { return max(a, b) }},
		{"sum", 0, func(a, b int64) int64 { return a + b }},
	}
}

func findCombination(name string) (Combination, bool) {
	for _, c := range combinations() {
		if c.name == name {
			return c, true
		}
	}
	return Combination{}, false
}
