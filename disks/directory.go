package disks

import (
	"strings"

	"stride/ordered"
)

type directory = ordered.Table[string, *file]

// change is one of a directory: one name is gone, another stands for a file; the empty name is none.
type change struct {
	gone, name string
	file       *file
}

func created(name string) change {
	return change{name: strings.Clone(name), file: &file{}}
}

func renamed(old, name string, f *file) change {
	return change{gone: strings.Clone(old), name: strings.Clone(name), file: f}
}

func removed(name string) change {
	return change{gone: strings.Clone(name)}
}

func (c change) makeIn(names *directory) {
	if c.gone != "" {
		names.Remove(c.gone)
	}
	if c.name != "" {
		names.Set(c.name, c.file)
	}
}
