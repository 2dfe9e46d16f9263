package disks

// Arm lets the disk go down behind the next n operations, or never, if n is below 0.
func (d *Disk) Arm(n int) {
	d.armed = n >= 0
	d.left = n
}

// Crash leaves of the names the safe ones, with the first dir changes, and of the i-th file the safe bytes, with the first keep[i] of the others.
func (d *Disk) Crash(dir int, keep []int) {
	d.names = d.safe
	for _, c := range d.changes[:clamp(dir, len(d.changes))] {
		c.makeIn(&d.names)
	}
	i := 0
	for _, f := range d.names.All() {
		f.crash(keptOf(keep, i))
		i++
	}
	d.makeNamesSafe()
	d.down = false
	d.Arm(-1)
}

func keptOf(keep []int, i int) int {
	if i < len(keep) {
		return keep[i]
	}
	return 0
}
