// Package runs: the steps of a program on a graph, and what a run comes to (P6).
package runs

import (
	"stride/api"
	"stride/programs"
)

// job: a program, and the edges of the graph on which it runs, by the vertices from which they go.
type job struct {
	program *programs.Program
	edges   [][]api.Edge
}

// Run runs a program on a graph, with at most so many steps.
func Run(g api.Graph, p *programs.Program, limit int) api.Result {
	j := job{program: p, edges: edgesByVertex(g)}
	c := begin(g, p)
	for step := 0; ; step++ {
		if how := ending(c, step, limit); how != api.None {
			return api.Result{Outcome: how, Step: step, Values: c.values()}
		}
		next, failed, ok := j.step(c, step)
		if !ok {
			return api.Result{Outcome: api.Faulted, Step: step, Vertex: failed, Values: c.values()}
		}
		c = next
	}
}

func edgesByVertex(g api.Graph) [][]api.Edge {
	all := make([][]api.Edge, len(g.Values))
	for _, e := range g.Edges {
		all[e.From] = append(all[e.From], e)
	}
	return all
}

// ending tells how a run ends ahead of a step, None if it goes on.
func ending(c configuration, step, limit int) api.Outcome {
	switch {
	case c.isQuiet():
		return api.Quiet
	case step >= limit:
		return api.Capped
	}
	return api.None
}

// step tells the configuration behind a step, or the first vertex for which a word fails. What was ahead of the step stays as it is: a run that fails tells it.
func (j job) step(c configuration, step int) (configuration, int, bool) {
	next := c.follow(j.program)
	for id, v := range c.vertices {
		if !v.isActive() {
			continue
		}
		seen := programs.Sight{Value: v.value, In: v.in, Got: v.got, Step: int64(step), ID: int64(id), Deg: int64(len(j.edges[id])), All: c.all}
		turn, ok := j.program.Turn(seen, j.edges[id])
		if !ok {
			return configuration{}, id, false
		}
		j.apply(turn, id, &next)
	}
	return next, 0, true
}

// apply writes what has come of a vertex into the next configuration.
func (j job) apply(turn programs.Turn, id int, next *configuration) {
	next.vertices[id].value = turn.Value
	next.vertices[id].rests = turn.Rests
	for i, message := range turn.Messages {
		to := &next.vertices[j.edges[id][i].To]
		to.got++
		to.in = j.program.By().Join(to.in, message)
	}
	next.all = j.program.All().Join(next.all, turn.Given)
}
