package snapshots

import (
	"stride/api"
	"stride/disks"
	"stride/ordered"
	"stride/runs"
)

// draft is the name of a file c. till all of it is safe.
const draft = "t"

// Failure is what a shelf gives up with, by panic, when the disk does not do an operation.
type Failure struct{ Errno api.Errno }

// Shelf: the whole snapshots of a job on a disk, by their steps, of which so many are kept.
type Shelf struct {
	disk  *disks.Disk
	job   Job
	most  int
	whole ordered.Table[int, runs.Configuration]
}

// NewShelf looks for a job's whole snapshots, by reading alone; ErrDown if the disk is down.
func NewShelf(d *disks.Disk, j Job, most int) (*Shelf, api.Errno) {
	names, e := d.List()
	if e != api.OK {
		return nil, e
	}
	s := &Shelf{disk: d, job: j, most: most}
	for _, name := range names {
		if c, ok := s.find(name); ok {
			s.whole.Add(c.Step, c)
		}
	}
	return s, api.OK
}

// find tells the configuration of the whole snapshot whose file c. has this name. The name must be the one that the step in the file asks for: so other files are none, and no step has two.
func (s *Shelf) find(name string) (runs.Configuration, bool) {
	cover := s.bytesOf(name)
	c, ok := openCover(cover)
	if !ok || coverName(c.Step) != name {
		return runs.Configuration{}, false
	}
	return s.job.read(snapshot{cover, s.bytesOf(messageName(c.Step)), s.bytesOf(valueName(c.Step))})
}

// bytesOf tells nothing of a file that is not there. That is no sealed text, so the snapshot is not whole.
func (s *Shelf) bytesOf(name string) string {
	bytes, _ := s.disk.Read(name)
	return bytes
}

// Newest tells the configuration of the greatest step, if there is one.
func (s *Shelf) Newest() (runs.Configuration, bool) {
	_, c, ok := s.whole.Last()
	return c, ok
}

// CleanUp removes all files but those of the newest snapshots, as many as are kept.
func (s *Shelf) CleanUp() {
	for s.whole.Len() > s.most {
		s.forgetOldest()
	}
	names, e := s.disk.List()
	must(e)
	removed := false
	for _, name := range names {
		if !s.keeps(name) {
			must(s.disk.Remove(name))
			removed = true
		}
	}
	if removed {
		must(s.disk.SyncDir())
	}
}

func (s *Shelf) keeps(name string) bool {
	for step := range s.whole.All() {
		if name == coverName(step) || name == messageName(step) || name == valueName(step) {
			return true
		}
	}
	return false
}

// Save writes a configuration to the disk. The file c. gets its name when all bytes are safe, and the names are safe behind that: a crash in between leaves no snapshot that only seems whole.
func (s *Shelf) Save(c runs.Configuration) {
	saved := s.job.snapshotOf(c)
	s.write(valueName(c.Step), saved.values)
	s.write(messageName(c.Step), saved.messages)
	s.write(draft, saved.cover)
	must(s.disk.Rename(draft, coverName(c.Step)))
	must(s.disk.SyncDir())
	s.whole.Add(c.Step, c)
}

func (s *Shelf) write(name, bytes string) {
	must(s.disk.Create(name))
	must(s.disk.Append(name, bytes))
	must(s.disk.Sync(name))
}

// Thin removes the oldest snapshots till there are as many as are kept. The file c. goes first: without it the others are no snapshot.
func (s *Shelf) Thin() {
	if s.whole.Len() <= s.most {
		return
	}
	for s.whole.Len() > s.most {
		step := s.forgetOldest()
		must(s.disk.Remove(coverName(step)))
		must(s.disk.Remove(messageName(step)))
		must(s.disk.Remove(valueName(step)))
	}
	must(s.disk.SyncDir())
}

func (s *Shelf) forgetOldest() int {
	step, _, _ := s.whole.First()
	s.whole.Remove(step)
	return step
}

func must(e api.Errno) {
	if e != api.OK {
		panic(Failure{e})
	}
}
