// Package stride: programs that run on all vertices of a graph, step by step, with snapshots on a disk that may fail: see DOC.md.
package stride

import (
	"stride/api"
	"stride/disks"
	"stride/graphs"
	"stride/programs"
	"stride/runs"
	"stride/seals"
	"stride/snapshots"
)

// Parse reads a graph (P3).
func Parse(graph string) (api.Graph, api.Errno, int) { return graphs.Parse(graph) }

// Compile tells whether a text is a program (P4).
func Compile(program string) (api.Errno, int) {
	_, e, at := programs.Compile(program)
	return e, at
}

// Catalogue tells a program by its name (P5).
func Catalogue(name string) (string, api.Errno) {
	text, ok := programs.Named(name)
	if !ok {
		return "", api.ErrNone
	}
	return text, api.OK
}

// Run runs a program on a graph (P6).
func Run(graph string, program string, limit int) (api.Result, api.Errno) {
	g, p, e := read(graph, program)
	if e != api.OK {
		return api.Result{}, e
	}
	if !isFrom(limit, 0, api.MaxCap) {
		return api.Result{}, api.ErrConf
	}
	job := runs.NewJob(g, p, limit)
	return job.Run(job.Begin(), func(runs.Configuration) {}), api.OK
}

// read tells what both texts say, or the first error of them.
func read(graph, program string) (api.Graph, *programs.Program, api.Errno) {
	g, e, _ := graphs.Parse(graph)
	if e != api.OK {
		return api.Graph{}, nil, e
	}
	p, e, _ := programs.Compile(program)
	return g, p, e
}

func isFrom(n, least, most int) bool { return least <= n && n <= most }

// Seal makes a sealed text of a payload (P7).
func Seal(payload string) string { return seals.Seal(payload) }

// Open tells the payload of a sealed text (P7).
func Open(sealed string) (string, bool) { return seals.Open(sealed) }

// Disk is a disk that may fail.
type Disk struct{ disk disks.Disk }

// NewDisk makes an empty disk (P8).
func NewDisk(quota int) *Disk { return &Disk{disks.New(quota)} }

// Create makes a file (P8).
func (d *Disk) Create(name string) api.Errno { return d.disk.Create(name) }

// Append writes behind a file's bytes (P8).
func (d *Disk) Append(name string, bytes string) api.Errno { return d.disk.Append(name, bytes) }

// Sync makes a file's bytes safe (P8).
func (d *Disk) Sync(name string) api.Errno { return d.disk.Sync(name) }

// Rename gives a file another name (P8).
func (d *Disk) Rename(old string, name string) api.Errno { return d.disk.Rename(old, name) }

// Remove takes a file's name away (P8).
func (d *Disk) Remove(name string) api.Errno { return d.disk.Remove(name) }

// SyncDir makes the names safe (P8).
func (d *Disk) SyncDir() api.Errno { return d.disk.SyncDir() }

// List tells all names (P9).
func (d *Disk) List() ([]string, api.Errno) { return d.disk.List() }

// Read tells a file's bytes (P9).
func (d *Disk) Read(name string) (string, api.Errno) { return d.disk.Read(name) }

// Used tells how many bytes all files have (P9).
func (d *Disk) Used() int { return d.disk.Used() }

// Quota sets how many bytes there may be (P9).
func (d *Disk) Quota(n int) { d.disk.Quota(n) }

// Arm sets after how many operations the disk goes down (P10).
func (d *Disk) Arm(n int) { d.disk.Arm(n) }

// Crash lets the disk lose what is not safe (P10).
func (d *Disk) Crash(dir int, keep []int) { d.disk.Crash(dir, keep) }

// Resume runs a program on a graph, with snapshots on a disk, from the newest one on (P11).
func Resume(d *Disk, graph string, program string, c api.Conf) (api.Result, api.Report, api.Errno) {
	g, p, e := read(graph, program)
	if e != api.OK {
		return api.Result{}, api.Report{}, e
	}
	if !isFrom(c.Every, 1, api.MaxEvery) || !isFrom(c.Keep, 1, api.MaxKeep) || !isFrom(c.Cap, 0, api.MaxCap) {
		return api.Result{}, api.Report{}, api.ErrConf
	}
	shelf, e := snapshots.NewShelf(&d.disk, snapshots.NewJob(graph, program, c.Cap, len(g.Values)), c.Keep)
	if e != api.OK {
		return api.Result{}, api.Report{}, e
	}
	return resume(runs.NewJob(g, p, c.Cap), shelf, c.Every)
}

// resume goes on with a job from its newest snapshot. If the shelf gives up, the error and the report so far are all that it tells.
func resume(job runs.Job, shelf *snapshots.Shelf, every int) (result api.Result, report api.Report, e api.Errno) {
	defer func() {
		switch why := recover().(type) {
		case nil:
		case snapshots.Failure:
			e = why.Errno
		default:
			// The disk did not give up: this must not pass for one that did.
			panic(why)
		}
	}()
	from, found := shelf.Newest()
	if !found {
		from = job.Begin()
	}
	report.From = from.Step
	shelf.CleanUp()
	result = job.Run(from, func(ahead runs.Configuration) {
		if ahead.Step > from.Step && ahead.Step%every == 0 {
			shelf.Save(ahead)
			report.Saved++
			shelf.Thin()
		}
	})
	return result, report, api.OK
}
