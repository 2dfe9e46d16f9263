package stride_test

import (
	"maps"
	"math/rand"
	"slices"
	"strings"
	"testing"

	"stride/api"
	"stride/stride"
)

// referenceFile keeps the bytes that are safe and those that are not apart.
type referenceFile struct{ safe, loose string }

// referenceDisk remembers all directories since the safe one, each whole, in place of what has changed: the first is the safe one, the last the one that is.
type referenceDisk struct {
	quota int
	past  []map[string]*referenceFile
	// fuse: one x for each operation that is still done, and one for the crash; nothing if the disk is not armed.
	fuse string
	down bool
}

func newReferenceDisk(quota int) *referenceDisk {
	return &referenceDisk{quota: quota, past: []map[string]*referenceFile{{}}}
}

func (r *referenceDisk) names() map[string]*referenceFile { return r.past[len(r.past)-1] }

func (r *referenceDisk) used() int {
	used := 0
	for _, f := range r.names() {
		used += len(f.safe + f.loose)
	}
	return used
}

func (r *referenceDisk) change(edit func(map[string]*referenceFile)) {
	next := maps.Clone(r.names())
	edit(next)
	r.past = append(r.past, next)
}

func wrongName(name string) bool {
	return name == "" || len(name) > 12 || strings.Trim(name, "abcdefghijklmnopqrstuvwxyz0123456789.") != ""
}

func (r *referenceDisk) operate(kind, name, other string) api.Errno {
	if r.fuse != "" {
		r.fuse = r.fuse[1:]
		r.down = r.down || r.fuse == ""
	}
	if r.down {
		return api.ErrDown
	}
	f := r.names()[name]
	switch {
	case kind == "syncdir":
		r.past = r.past[len(r.past)-1:]
	case kind == "create" && wrongName(name), kind == "rename" && wrongName(other):
		return api.ErrFile
	case kind == "create":
		r.change(func(names map[string]*referenceFile) { names[name] = &referenceFile{} })
	case f == nil:
		return api.ErrNone
	case kind == "append" && r.used()+len(other) > r.quota:
		return api.ErrFull
	case kind == "append":
		f.loose += other
	case kind == "sync":
		f.safe, f.loose = f.safe+f.loose, ""
	case kind == "remove":
		r.change(func(names map[string]*referenceFile) { delete(names, name) })
	case kind == "rename" && name != other:
		r.change(func(names map[string]*referenceFile) {
			delete(names, name)
			names[other] = f
		})
	}
	return api.OK
}

func (r *referenceDisk) crash(dir int, keep []int) {
	if dir < 0 {
		dir = 0
	}
	if dir >= len(r.past) {
		dir = len(r.past) - 1
	}
	left := r.past[dir]
	for i, name := range slices.Sorted(maps.Keys(left)) {
		f := left[name]
		for n := 0; i < len(keep) && n < keep[i] && f.loose != ""; n++ {
			f.safe, f.loose = f.safe+f.loose[:1], f.loose[1:]
		}
		f.loose = ""
	}
	r.past = []map[string]*referenceFile{left}
	r.down, r.fuse = false, ""
}

// pair: a disk, and what it must answer.
type pair struct {
	disk      *stride.Disk
	reference *referenceDisk
	told      []string
}

func (p *pair) operate(t *testing.T, c chance) {
	t.Helper()
	kind := c.of("create", "append", "append", "append", "sync", "sync", "rename", "remove", "syncdir")
	name := c.of("a", "b", "c", "d.1", "0", "A", "", "waytoolongname")
	other := c.of("", "1", "23", "456")
	if kind == "rename" {
		other = c.of("a", "b", "c", "d.1", "0", "A", "", "waytoolongname")
	}
	p.told = append(p.told, kind+" "+name+" "+other)
	if got, want := operate(p.disk, kind+" "+name+" "+other), p.reference.operate(kind, name, other); got != want {
		t.Fatalf("P8: behind %q the answer is %d, want %d", p.told, got, want)
	}
}

func (p *pair) setOrCrash(c chance) {
	n := c.Intn(30) - 5
	switch c.Intn(5) {
	case 0:
		p.told = append(p.told, "quota")
		p.disk.Quota(n)
		p.reference.quota = n
	case 1, 2:
		p.told = append(p.told, "arm")
		p.disk.Arm(n)
		p.reference.fuse = strings.Repeat("x", max(n+1, 0))
	default:
		p.told = append(p.told, "crash")
		keep := make([]int, c.Intn(6))
		for i := range keep {
			keep[i] = c.Intn(9) - 3
		}
		p.disk.Crash(n/3, keep)
		p.reference.crash(n/3, keep)
	}
}

func (p *pair) compare(t *testing.T) {
	t.Helper()
	r := p.reference
	list, e := p.disk.List()
	var wantList []string
	wantError := api.ErrDown
	if !r.down {
		wantList, wantError = slices.Sorted(maps.Keys(r.names())), api.OK
	}
	if !slices.Equal(list, wantList) || e != wantError || p.disk.Used() != r.used() {
		t.Fatalf("P9: behind %q List is %q, %d, Used is %d, want %q, %d and %d", p.told, list, e, p.disk.Used(), wantList, wantError, r.used())
	}
	for _, name := range wantList {
		f := r.names()[name]
		if bytes, e := p.disk.Read(name); bytes != f.safe+f.loose || e != api.OK {
			t.Fatalf("P9: behind %q Read(%q) = %q, %d, want %q", p.told, name, bytes, e, f.safe+f.loose)
		}
	}
}

// TestDisksSideBySide: P8 to P10 against the reference, and P2: of several disks that are used by turns each answers as if it were alone.
func TestDisksSideBySide(t *testing.T) {
	c := chance{rand.New(rand.NewSource(13))}
	for range 400 {
		pairs := make([]*pair, 3)
		for i := range pairs {
			quota := c.Intn(40) - 2
			pairs[i] = &pair{disk: stride.NewDisk(quota), reference: newReferenceDisk(quota)}
		}
		for range 300 {
			p := pairs[c.Intn(len(pairs))]
			if c.Intn(12) == 0 {
				p.setOrCrash(c)
			} else {
				p.operate(t, c)
			}
			for _, p := range pairs {
				p.compare(t)
			}
		}
	}
}
