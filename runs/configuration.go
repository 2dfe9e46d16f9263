package runs

import (
	"stride/api"
	"stride/programs"
)

// vertex: what a configuration has of one vertex: its value, whether it rests, how many messages it has, and what they are combined to.
type vertex struct {
	value int64
	rests bool
	got   int64
	in    int64
}

func (v vertex) isActive() bool { return !v.rests || v.got > 0 }

// configuration: all that a step begins with.
type configuration struct {
	vertices []vertex
	all      int64
}

// begin tells the configuration ahead of step 0.
func begin(g api.Graph, p *programs.Program) configuration {
	var c configuration
	for _, value := range g.Values {
		c.vertices = append(c.vertices, vertex{value: value})
	}
	return c.follow(p)
}

// follow tells a new configuration of the same vertices, to which nothing has been sent yet, and by which nothing has been given.
func (c configuration) follow(p *programs.Program) configuration {
	next := configuration{all: p.All().Nothing}
	for _, v := range c.vertices {
		next.vertices = append(next.vertices, vertex{value: v.value, rests: v.rests, in: p.By().Nothing})
	}
	return next
}

func (c configuration) isQuiet() bool {
	for _, v := range c.vertices {
		if v.isActive() {
			return false
		}
	}
	return true
}

func (c configuration) values() []int64 {
	var all []int64
	for _, v := range c.vertices {
		all = append(all, v.value)
	}
	return all
}
