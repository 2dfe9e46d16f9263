// Package disks: a stand-in for a disk, which keeps apart what is safe and what a crash may lose.
package disks

import "stride/api"

// Disk has the names as they are and as they are safe, and what lies between the two. A file that only the safe names or the changes still have can come back by a crash.
type Disk struct {
	quota   int
	names   directory
	safe    directory
	changes []change
	// left: how many operations are still done, if it is armed.
	left  int
	armed bool
	down  bool
}

// New makes a disk without files.
func New(quota int) Disk { return Disk{quota: quota} }

// Create lets the name stand for a new file.
func (d *Disk) Create(name string) api.Errno {
	if !d.operates() {
		return api.ErrDown
	}
	if !isName(name) {
		return api.ErrFile
	}
	d.change(created(name))
	return api.OK
}

// Append puts bytes behind a file's.
func (d *Disk) Append(name, bytes string) api.Errno {
	f, e := d.operatesOn(name)
	if e != api.OK {
		return e
	}
	if d.Used()+len(bytes) > d.quota {
		return api.ErrFull
	}
	f.bytes = append(f.bytes, bytes...)
	return api.OK
}

// Sync makes all of a file's bytes safe.
func (d *Disk) Sync(name string) api.Errno {
	f, e := d.operatesOn(name)
	if e != api.OK {
		return e
	}
	f.safe = len(f.bytes)
	return api.OK
}

// Rename lets name stand for old's file, and old for none.
func (d *Disk) Rename(old, name string) api.Errno {
	if !d.operates() {
		return api.ErrDown
	}
	if !isName(name) {
		return api.ErrFile
	}
	f, there := d.names.Get(old)
	if !there {
		return api.ErrNone
	}
	if old != name {
		d.change(renamed(old, name, f))
	}
	return api.OK
}

// Remove lets the name stand for no file.
func (d *Disk) Remove(name string) api.Errno {
	if _, e := d.operatesOn(name); e != api.OK {
		return e
	}
	d.change(removed(name))
	return api.OK
}

// SyncDir makes the names safe as they are.
func (d *Disk) SyncDir() api.Errno {
	if !d.operates() {
		return api.ErrDown
	}
	d.makeNamesSafe()
	return api.OK
}

// List tells the names, by rising bytes.
func (d *Disk) List() ([]string, api.Errno) {
	if d.down {
		return nil, api.ErrDown
	}
	var list []string
	for name := range d.names.All() {
		list = append(list, name)
	}
	return list, api.OK
}

// Read tells a file's bytes.
func (d *Disk) Read(name string) (string, api.Errno) {
	if d.down {
		return "", api.ErrDown
	}
	f, there := d.names.Get(name)
	if !there {
		return "", api.ErrNone
	}
	return string(f.bytes), api.OK
}

// Used tells how many bytes the files have that have a name now.
func (d *Disk) Used() int {
	used := 0
	for _, f := range d.names.All() {
		used += len(f.bytes)
	}
	return used
}

// Quota sets how many bytes there may be.
func (d *Disk) Quota(n int) { d.quota = n }

// operates counts an operation, whatever comes of it, and tells whether it is done.
func (d *Disk) operates() bool {
	if d.armed {
		d.down = d.down || d.left == 0
		d.left--
	}
	return !d.down
}

// operatesOn counts an operation on a file that must be there, and finds it.
func (d *Disk) operatesOn(name string) (*file, api.Errno) {
	if !d.operates() {
		return nil, api.ErrDown
	}
	f, there := d.names.Get(name)
	if !there {
		return nil, api.ErrNone
	}
	return f, api.OK
}

func (d *Disk) change(c change) {
	c.makeIn(&d.names)
	d.changes = append(d.changes, c)
}

func (d *Disk) makeNamesSafe() {
	d.safe = d.names.Clone()
	d.changes = nil
}
