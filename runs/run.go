// Package runs: the steps of a program on a graph, and what a run comes to (P6).
package runs

import (
	"stride/api"
	"stride/programs"
)

// Job: a program, the graph on which it runs (the edges by the vertices from which they go), and how many steps there may be.
type Job struct {
	program *programs.Program
	first   []int64
	edges   [][]api.Edge
	limit   int
}

// NewJob makes a job of what the texts say.
func NewJob(g api.Graph, p *programs.Program, limit int) Job {
	return Job{program: p, first: g.Values, edges: edgesByVertex(g), limit: limit}
}

func edgesByVertex(g api.Graph) [][]api.Edge {
	all := make([][]api.Edge, len(g.Values))
	for _, e := range g.Edges {
		all[e.From] = append(all[e.From], e)
	}
	return all
}

// Begin tells the configuration ahead of step 0.
func (j Job) Begin() Configuration {
	var vertices []Vertex
	for _, value := range j.first {
		vertices = append(vertices, Vertex{Value: value})
	}
	return j.untold(0, vertices)
}

// untold tells a configuration of these vertices to which nothing has been sent, and by which nothing has been given.
func (j Job) untold(step int, vertices []Vertex) Configuration {
	c := Configuration{Step: step, All: j.program.All().Nothing}
	for _, v := range vertices {
		c.Vertices = append(c.Vertices, Vertex{Value: v.Value, Rests: v.Rests, In: j.program.By().Nothing})
	}
	return c
}

// Run goes on from a configuration till the run ends. What is ahead of a step is shown before the step is done, if the run does not end there.
func (j Job) Run(c Configuration, show func(ahead Configuration)) api.Result {
	for {
		if how := j.ending(c); how != api.None {
			return api.Result{Outcome: how, Step: c.Step, Values: c.values()}
		}
		show(c)
		next, failed, ok := j.step(c)
		if !ok {
			return api.Result{Outcome: api.Faulted, Step: c.Step, Vertex: failed, Values: c.values()}
		}
		c = next
	}
}

// ending tells how a run ends ahead of a step, None if it goes on.
func (j Job) ending(c Configuration) api.Outcome {
	switch {
	case c.isQuiet():
		return api.Quiet
	case c.Step >= j.limit:
		return api.Capped
	}
	return api.None
}

// step tells the configuration behind a step, or the first vertex for which a word fails. What was ahead of the step stays as it is: a run that fails tells it.
func (j Job) step(c Configuration) (Configuration, int, bool) {
	next := j.untold(c.Step+1, c.Vertices)
	for id, v := range c.Vertices {
		if !c.isActive(v) {
			continue
		}
		seen := programs.Sight{Value: v.Value, In: v.In, Got: v.Got, Step: int64(c.Step), ID: int64(id), Deg: int64(len(j.edges[id])), All: c.All}
		turn, ok := j.program.Turn(seen, j.edges[id])
		if !ok {
			return Configuration{}, id, false
		}
		j.apply(turn, id, &next)
	}
	return next, 0, true
}

// apply writes what has come of a vertex into the next configuration.
func (j Job) apply(turn programs.Turn, id int, next *Configuration) {
	next.Vertices[id].Value = turn.Value
	next.Vertices[id].Rests = turn.Rests
	for i, message := range turn.Messages {
		to := &next.Vertices[j.edges[id][i].To]
		to.Got++
		to.In = j.program.By().Join(to.In, message)
	}
	next.All = j.program.All().Join(next.All, turn.Given)
}
