// Package snapshots: configurations on a disk: their bytes, which of them are whole, how one is saved and how others go (P12 to P14).
package snapshots

import (
	"strconv"

	"stride/little"
	"stride/runs"
	"stride/seals"
)

// How many bytes the payloads have: of each vertex in v. and in m., and in c. in all.
const (
	valueLength   = 8 + 1
	messageLength = 4 + 8
	coverLength   = 4 + 8 + 4 + 4 + 4
)

// Job: what tells one job's snapshots from others'.
type Job struct {
	sum      uint32
	vertices int
}

// NewJob makes it of both texts, how many steps there may be, and how many vertices there are.
func NewJob(graph, program string, limit, vertices int) Job {
	return Job{seals.Sum(graph + "\x00" + program + "\x00" + strconv.Itoa(limit)), vertices}
}

// snapshot: the bytes of its three files.
type snapshot struct{ cover, messages, values string }

func coverName(step int) string { return "c." + strconv.Itoa(step) }

func messageName(step int) string { return "m." + strconv.Itoa(step) }

func valueName(step int) string { return "v." + strconv.Itoa(step) }

// snapshotOf writes a configuration down.
func (j Job) snapshotOf(c runs.Configuration) snapshot {
	var values, messages little.Writer
	for _, v := range c.Vertices {
		values.Put(uint64(v.Value), 8)
		values.Put(bit(v.Rests), 1)
		messages.Put(uint64(v.Got), 4)
		messages.Put(uint64(v.In), 8)
	}
	s := snapshot{messages: seals.Seal(messages.Text()), values: seals.Seal(values.Text())}
	s.cover = seals.Seal(j.coverOf(c.Step, c.All, s))
	return s
}

// coverOf tells what is in c., of which the sums make the three files belong together.
func (j Job) coverOf(step int, all int64, s snapshot) string {
	var w little.Writer
	w.Put(uint64(step), 4)
	w.Put(uint64(all), 8)
	w.Put(uint64(j.sum), 4)
	w.Put(uint64(seals.Sum(s.values)), 4)
	w.Put(uint64(seals.Sum(s.messages)), 4)
	return w.Text()
}

func bit(b bool) uint64 {
	if b {
		return 1
	}
	return 0
}

// openCover tells the step and ALL of the file c., if it is one; its sums are still to be looked at.
func openCover(cover string) (runs.Configuration, bool) {
	payload, ok := openOf(cover, coverLength)
	if !ok {
		return runs.Configuration{}, false
	}
	r := little.NewReader(payload)
	return runs.Configuration{Step: int(r.Take(4)), All: int64(r.Take(8))}, true
}

// read tells the configuration that is written down, if all of it is this job's and whole.
func (j Job) read(s snapshot) (runs.Configuration, bool) {
	c, ok := openCover(s.cover)
	if !ok || s.cover != seals.Seal(j.coverOf(c.Step, c.All, s)) {
		return runs.Configuration{}, false
	}
	values, ok := openOf(s.values, j.vertices*valueLength)
	if !ok {
		return runs.Configuration{}, false
	}
	messages, ok := openOf(s.messages, j.vertices*messageLength)
	if !ok {
		return runs.Configuration{}, false
	}
	c.Vertices, ok = readVertices(values, messages, j.vertices)
	return c, ok
}

func openOf(sealed string, length int) (string, bool) {
	payload, ok := seals.Open(sealed)
	return payload, ok && len(payload) == length
}

func readVertices(values, messages string, n int) ([]runs.Vertex, bool) {
	v, m := little.NewReader(values), little.NewReader(messages)
	var all []runs.Vertex
	for range n {
		value, rests := v.Take(8), v.Take(1)
		if rests > 1 {
			return nil, false
		}
		got, in := m.Take(4), m.Take(8)
		all = append(all, runs.Vertex{Value: int64(value), Rests: rests == 1, Got: int64(got), In: int64(in)})
	}
	return all, true
}
