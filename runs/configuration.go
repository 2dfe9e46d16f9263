package runs

// Vertex: what a configuration has of one vertex: its value, whether it rests, how many messages it has, and what they are combined to.
type Vertex struct {
	Value int64
	Rests bool
	Got   int64
	In    int64
}

// Configuration: all that a step begins with, and that step's number.
type Configuration struct {
	Step     int
	Vertices []Vertex
	All      int64
}

// isActive: in step 0 all are, whatever a configuration that was not worked out here says of them.
func (c Configuration) isActive(v Vertex) bool { return c.Step == 0 || !v.Rests || v.Got > 0 }

func (c Configuration) isQuiet() bool {
	for _, v := range c.Vertices {
		if c.isActive(v) {
			return false
		}
	}
	return true
}

func (c Configuration) values() []int64 {
	var all []int64
	for _, v := range c.Vertices {
		all = append(all, v.Value)
	}
	return all
}
