package stride_test

import (
	"math"
	"slices"
	"strconv"
	"strings"
	"testing"

	"stride/api"
	"stride/stride"
)

// layFile writes a file, with bytes and name safe.
func layFile(t *testing.T, d *stride.Disk, name, bytes string) {
	t.Helper()
	checkDone(t, d, "create "+name, "append "+name+" "+bytes, "sync "+name, "syncdir")
}

// lay writes the files of a snapshot under the names of a step.
func lay(t *testing.T, d *stride.Disk, f files, step int) {
	t.Helper()
	for i, bytes := range []string{f.c, f.m, f.v} {
		layFile(t, d, namesOf(step)[i], bytes)
	}
}

// never: a state in which the counting program never is on "a 0\nb 0".
func never(step int) state {
	return state{step, []int64{20, 27}, []bool{false, false}, []int{0, 0}, []int64{0, 0}, 0}
}

const two = "a 0\nb 0"

func twoConf() api.Conf { return api.Conf{Every: 50, Keep: 1, Cap: 200} }

func twoJob() uint32 { return jobOf(two, counting(), 200) }

// checkWhole: the disk has a whole snapshot of a step, of a state that never was, and the run goes on from there.
func checkWhole(t *testing.T, d *stride.Disk, step int) {
	t.Helper()
	checkResume(t, d, two, counting(), twoConf(), step, 0, api.Quiet, step+10, 30, 30)
	checkNames(t, d, strings.Join(namesOf(step), " "))
}

// checkNoneWhole: the disk has none; the run begins anew, and all is removed.
func checkNoneWhole(t *testing.T, d *stride.Disk, why string) {
	t.Helper()
	r, report, e := stride.Resume(d, two, counting(), twoConf())
	if !sameResult(r, api.Result{Outcome: api.Quiet, Step: 30, Values: []int64{30, 30}}) || report != (api.Report{}) || e != api.OK {
		t.Errorf("P12: %s: Resume = %v, %v, %d", why, r, report, e)
	}
	checkNames(t, d, "")
}

func TestWholeSnapshots(t *testing.T) {
	for _, step := range []int{0, 1, 7, 10, 100, 189} {
		d := diskWith(t, vast)
		lay(t, d, never(step).files(twoJob()), step)
		checkWhole(t, d, step)
	}
}

// TestWholeThoughNotSafe: what is there counts, safe or not.
func TestWholeThoughNotSafe(t *testing.T) {
	d := diskWith(t, vast)
	f := never(7).files(twoJob())
	checkDone(t, d, "create c.7", "create m.7", "create v.7", "append c.7 "+f.c, "append m.7 "+f.m, "append v.7 "+f.v)
	checkWhole(t, d, 7)
	d.Crash(0, nil)
	checkNames(t, d, "")
}

func TestSnapshotThatLacksAFile(t *testing.T) {
	for _, lacks := range namesOf(7) {
		d := diskWith(t, vast)
		lay(t, d, never(7).files(twoJob()), 7)
		checkDone(t, d, "remove "+lacks)
		checkNoneWhole(t, d, "without "+lacks)
		lay(t, d, never(7).files(twoJob()), 7)
		checkDone(t, d, "create "+lacks)
		checkNoneWhole(t, d, "with no byte in "+lacks)
	}
}

func TestSnapshotWithABitTurned(t *testing.T) {
	f := never(7).files(twoJob())
	for i, bytes := range []string{f.c, f.m, f.v} {
		for at := range 8 * len(bytes) {
			b := []byte(bytes)
			b[at/8] ^= 1 << (at % 8)
			d := diskWith(t, vast)
			lay(t, d, f, 7)
			layFile(t, d, namesOf(7)[i], string(b))
			checkNoneWhole(t, d, "bit "+strconv.Itoa(at)+" of "+namesOf(7)[i])
		}
	}
}

func TestSnapshotTooLongOrTooShort(t *testing.T) {
	f := never(7).files(twoJob())
	for i, bytes := range []string{f.c, f.m, f.v} {
		for _, other := range []string{bytes + "\x00", bytes + "x", bytes[:len(bytes)-1], bytes[:8], bytes[8:], bytes + bytes} {
			d := diskWith(t, vast)
			lay(t, d, f, 7)
			layFile(t, d, namesOf(7)[i], other)
			checkNoneWhole(t, d, "another length of "+namesOf(7)[i])
		}
	}
}

// TestPayloadsTooLongOrTooShort: all seals and sums are right, only the payloads have other lengths than they must.
func TestPayloadsTooLongOrTooShort(t *testing.T) {
	change := []func(string) string{
		func(p string) string { return p + "\x00" }, func(p string) string { return p[:len(p)-1] }, func(p string) string { return "" },
		func(p string) string { return p + p }, func(p string) string { return p[:len(p)/2] },
	}
	f := never(7).files(twoJob())
	coverWith := func(v, m string) string { return sealedOf(cover{7, 0, twoJob(), sumOf(v), sumOf(m)}) }
	for _, changed := range change {
		v, m, c := rightlySealed(changed(f.v[8:])), rightlySealed(changed(f.m[8:])), rightlySealed(changed(f.c[8:]))
		for why, wrong := range map[string]files{
			"v": {v, f.m, coverWith(v, f.m)}, "m": {f.v, m, coverWith(f.v, m)}, "c": {f.v, f.m, c}, "v and m": {v, m, coverWith(v, m)},
		} {
			d := diskWith(t, vast)
			lay(t, d, wrong, 7)
			checkNoneWhole(t, d, "another payload of "+why)
		}
	}
	for _, vertices := range []int{0, 1, 3, 4} {
		s := state{step: 7}
		for range vertices {
			s.values, s.rests, s.got, s.in = append(s.values, 1), append(s.rests, false), append(s.got, 0), append(s.in, 0)
		}
		d := diskWith(t, vast)
		lay(t, d, s.files(twoJob()), 7)
		checkNoneWhole(t, d, strconv.Itoa(vertices)+" vertices")
	}
}

func TestSumsThatMustBeTold(t *testing.T) {
	f := never(7).files(twoJob())
	v, m := sumOf(f.v), sumOf(f.m)
	for why, wrong := range map[string]cover{
		"another job": {7, 0, twoJob() + 1, v, m}, "no job": {7, 0, 0, v, m}, "the sum of v.": {7, 0, twoJob(), v + 1, m}, "the sum of m.": {7, 0, twoJob(), v, m ^ 1<<31},
		"sums the other way round": {7, 0, twoJob(), m, v}, "sums of the payloads": {7, 0, twoJob(), sumOf(f.v[8:]), sumOf(f.m[8:])},
		"another step": {8, 0, twoJob(), v, m}, "no step": {0, 0, twoJob(), v, m},
	} {
		d := diskWith(t, vast)
		lay(t, d, files{f.v, f.m, sealedOf(wrong)}, 7)
		checkNoneWhole(t, d, why)
	}
	d := diskWith(t, vast)
	lay(t, d, files{f.v, f.m, sealedOf(cover{7, 0, twoJob(), v, m})}, 7)
	checkWhole(t, d, 7)
	lay(t, d, files{f.m, f.v, f.c}, 7)
	checkNoneWhole(t, d, "v. and m. the other way round")
}

// TestFilesOfTwoSnapshots: of one step, each whole, do not make one.
func TestFilesOfTwoSnapshots(t *testing.T) {
	one := never(7).files(twoJob())
	other := state{7, []int64{5, 5}, []bool{false, true}, []int{1, 2}, []int64{3, 4}, 5}.files(twoJob())
	for why, mixed := range map[string]files{"v": {other.v, one.m, one.c}, "m": {one.v, other.m, one.c}, "v and m": {other.v, other.m, one.c}} {
		d := diskWith(t, vast)
		lay(t, d, mixed, 7)
		checkNoneWhole(t, d, why)
	}
}

func TestBytesThatAreNeither0Nor1(t *testing.T) {
	for _, rests := range []uint8{2, 3, 128, 255} {
		for i := range 2 {
			values := []vertexValue{{20, 0}, {27, 0}}
			values[i].Rests = rests
			v, m := sealedOf(values), sealedOf(make([]vertexMail, 2))
			d := diskWith(t, vast)
			lay(t, d, files{v, m, sealedOf(cover{7, 0, twoJob(), sumOf(v), sumOf(m)})}, 7)
			checkNoneWhole(t, d, "a byte "+strconv.Itoa(int(rests)))
		}
	}
}

func TestNamesThatAreNoSnapshots(t *testing.T) {
	for step, names := range map[int][]string{
		7: {"07", "007", "8", "70", "17", "", "7.", ".7", "7a", "a7", "0x7", "7.0", "4294967303"},
		0: {"00", "000", "", "1", "4294967296"},
		1: {"4294967297", "01"},
	} {
		f := never(step).files(twoJob())
		for _, name := range names {
			d := diskWith(t, vast)
			layFile(t, d, "c."+name, f.c)
			layFile(t, d, "m."+name, f.m)
			layFile(t, d, "v."+name, f.v)
			checkNoneWhole(t, d, "the name "+name)
			// nor do the right names of the others help
			lay(t, d, f, step)
			checkDone(t, d, "rename c."+strconv.Itoa(step)+" c."+name)
			checkNoneWhole(t, d, "the name c."+name)
		}
		d := diskWith(t, vast)
		for _, o := range [][2]string{{"c.", "t"}, {"c.", "c"}, {"c.", "x."}, {"m.", "n."}, {"v.", "w."}} {
			lay(t, d, f, step)
			checkDone(t, d, "rename "+o[0]+strconv.Itoa(step)+" "+o[1])
			checkNoneWhole(t, d, "the name "+o[1])
		}
	}
}

// TestStepsThatAreGreat: a step takes all of its four bytes.
func TestStepsThatAreGreat(t *testing.T) {
	for _, step := range []int{256, 65536, math.MaxInt32, math.MaxInt32 + 1, math.MaxUint32} {
		d := diskWith(t, vast)
		lay(t, d, never(step).files(twoJob()), step)
		d.Arm(0)
		checkResume(t, d, two, counting(), twoConf(), step, 0, api.Capped, step, 20, 27)
		checkNames(t, d, strings.Join(namesOf(step), " "))
	}
}

func TestSnapshotsAtAndAboveCap(t *testing.T) {
	for _, step := range []int{5, 6, 100} {
		job := jobOf(two, counting(), 5)
		c := api.Conf{Every: 1, Keep: 1, Cap: 5}
		d := diskWith(t, vast)
		lay(t, d, never(step).files(job), step)
		checkResume(t, d, two, counting(), c, step, 0, api.Capped, step, 20, 27)
		quiet := never(step)
		quiet.rests = []bool{true, true}
		lay(t, d, quiet.files(job), step)
		checkResume(t, d, two, counting(), c, step, 0, api.Quiet, step, 20, 27)
		checkNames(t, d, strings.Join(namesOf(step), " "))
	}
}

// TestAllOfASnapshotIsGoneOnFrom: what each of its numbers is read as.
func TestAllOfASnapshotIsGoneOnFrom(t *testing.T) {
	const graph = "a 1\nb 2\nc 3"
	check := func(s state, code string, step int, values ...int64) {
		t.Helper()
		text := still("new: " + code)
		d := diskWith(t, vast)
		lay(t, d, s.files(jobOf(graph, text, 9)), s.step)
		checkResume(t, d, graph, text, api.Conf{Every: 9, Keep: 1, Cap: 9}, s.step, 0, api.Quiet, step, values...)
	}
	s := state{step: 4, values: []int64{least, greatest, -1}, rests: []bool{false, false, false}, got: []int{0, 1, math.MaxUint32}, in: []int64{least, greatest, -2}, all: -3}
	check(s, "value", 5, least, greatest, -1)
	check(s, "got", 5, 0, 1, math.MaxUint32)
	check(s, "in", 5, least, greatest, -2)
	check(s, "all", 5, -3, -3, -3)
	check(s, "step", 5, 4, 4, 4)
	// who rests without messages is not woken; a number of messages that no run comes to is still one
	s.rests = []bool{true, true, true}
	check(s, "got", 5, least, 1, math.MaxUint32)
	s.got = []int{0, 0, math.MaxInt32 + 1}
	check(s, "got", 5, least, greatest, math.MaxInt32+1)
	s.got = []int{0, 0, 0}
	check(s, "got", 4, least, greatest, -1)
	// in step 0 all are active
	s.step = 0
	check(s, "in", 1, least, greatest, -2)
}

func TestGreatestStepIsGoneOnFrom(t *testing.T) {
	d := diskWith(t, vast)
	for _, step := range []int{9, 100, 10, 99, 1} {
		lay(t, d, never(step).files(twoJob()), step)
	}
	checkWhole(t, d, 100)
	for _, step := range []int{9, 10, 99, 1} {
		lay(t, d, never(step).files(twoJob()), step)
	}
	checkDone(t, d, "create v.100", "append v.99 x")
	c := twoConf()
	c.Keep = 2
	checkResume(t, d, two, counting(), c, 10, 0, api.Quiet, 20, 30, 30)
	checkNames(t, d, "c.10 c.9 m.10 m.9 v.10 v.9")
}

// TestSnapshotsOfAGraphWithoutVertices: they are whole with empty payloads.
func TestSnapshotsOfAGraphWithoutVertices(t *testing.T) {
	d := diskWith(t, vast)
	lay(t, d, state{step: 3}.files(jobOf("", counting(), 2)), 3)
	checkResume(t, d, "", counting(), api.Conf{Every: 1, Keep: 1, Cap: 2}, 3, 0, api.Quiet, 3)
	checkNames(t, d, "c.3 m.3 v.3")
}

// savedOf counts the snapshots that are saved by the first operations of a script.
func savedOf(operations []string) int {
	saved := 0
	for i, o := range operations {
		if o == "syncdir" && i > 0 && strings.HasPrefix(operations[i-1], "rename t c.") {
			saved++
		}
	}
	return saved
}

// checkOperations: a Resume does just these operations. Wherever the disk goes down, and whatever a crash leaves, it has what it would have if the operations ahead of that had been done by hand.
func checkOperations(t *testing.T, newDisk func() *stride.Disk, j job, c api.Conf, from int, operations []string) {
	t.Helper()
	c.Cap = j.limit
	all := slices.Repeat([]int{999}, 30)
	for n := range len(operations) + 1 {
		for dir := -1; dir < 12; dir++ {
			for _, keep := range [][]int{nil, all, {5, 0, 9, 1}} {
				d, byHand := newDisk(), newDisk()
				d.Arm(n)
				_, report, e := stride.Resume(d, j.graph, j.program, c)
				if want := (api.Report{From: from, Saved: savedOf(operations[:n])}); report != want || (e == api.ErrDown) != (n < len(operations)) {
					t.Fatalf("P11: with %d operations: %v, %d, want %v", n, report, e, want)
				}
				checkDone(t, byHand, operations[:n]...)
				d.Crash(dir, keep)
				byHand.Crash(dir, keep)
				if got, want := contents(d), contents(byHand); !slices.Equal(got, want) {
					t.Fatalf("P13, P14: with %d operations, a crash with %d leaves %q, want %q", n, dir, got, want)
				}
			}
		}
	}
}

func counting12() job { return job{"a 0", counting(), 12} }

func TestOperationsOfSaving(t *testing.T) {
	j := counting12()
	operations := slices.Concat(
		saving(4, counted(4).files(j.sum())),
		saving(8, counted(8).files(j.sum())),
		[]string{"remove c.4", "remove m.4", "remove v.4", "syncdir"},
	)
	checkOperations(t, func() *stride.Disk { return diskWith(t, vast) }, j, api.Conf{Every: 4, Keep: 1}, 0, operations)
	checkOperations(t, func() *stride.Disk { return diskWith(t, vast) }, j, api.Conf{Every: 4, Keep: 2}, 0, operations[:22])
	checkOperations(t, func() *stride.Disk { return diskWith(t, vast) }, j, api.Conf{Every: 12, Keep: 1}, 0, nil)
}

func TestOperationsOfCleaningUp(t *testing.T) {
	j := counting12()
	newDisk := func() *stride.Disk {
		d := diskWith(t, vast)
		for _, step := range []int{2, 3, 9, 10} {
			lay(t, d, counted(step).files(j.sum()), step)
		}
		for _, name := range []string{"z", "t", "c.11", "m.9x", "c", "v.1", ".", "0", "v.100", "v.02"} {
			layFile(t, d, name, "bytes of "+name)
		}
		return d
	}
	operations := slices.Concat(
		[]string{"remove .", "remove 0", "remove c", "remove c.11", "remove c.2", "remove m.2", "remove m.9x", "remove t", "remove v.02", "remove v.1", "remove v.100", "remove v.2", "remove z", "syncdir"},
		saving(11, counted(11).files(j.sum())),
		[]string{"remove c.3", "remove m.3", "remove v.3", "syncdir"},
	)
	checkOperations(t, newDisk, j, api.Conf{Every: 11, Keep: 3}, 10, operations)
}

// TestNoSyncDirWhereNothingIsRemoved: names that are not safe stay so, if there is nothing to be cleaned up.
func TestNoSyncDirWhereNothingIsRemoved(t *testing.T) {
	j := counting12()
	f := counted(10).files(j.sum())
	newDisk := func() *stride.Disk {
		return diskWith(t, vast, "create c.10", "create m.10", "create v.10", "append c.10 "+f.c, "append m.10 "+f.m, "append v.10 "+f.v)
	}
	checkOperations(t, newDisk, j, api.Conf{Every: 10, Keep: 5}, 10, nil)
	with := func() *stride.Disk {
		d := newDisk()
		checkDone(t, d, "create x")
		return d
	}
	checkOperations(t, with, j, api.Conf{Every: 10, Keep: 1}, 10, []string{"remove x", "syncdir"})
}

// TestQuotaThatIsMet: with each quota the operations are done up to the first Append that does not fit, and none behind it.
func TestQuotaThatIsMet(t *testing.T) {
	j := counting12()
	operations := slices.Concat(
		saving(5, counted(5).files(j.sum())),
		saving(10, counted(10).files(j.sum())),
		[]string{"remove c.5", "remove m.5", "remove v.5", "syncdir"},
	)
	for quota := -1; quota < 150; quota++ {
		d, byHand := diskWith(t, quota), diskWith(t, quota)
		n, e := 0, api.OK
		for ; n < len(operations) && e == api.OK; n++ {
			e = operate(byHand, operations[n])
		}
		if e != api.OK {
			n--
		}
		if (e == api.ErrFull) != (quota < 138) || e != api.OK && e != api.ErrFull {
			t.Fatalf("P8: by hand %d with a quota of %d", e, quota)
		}
		r, report, got := stride.Resume(d, j.graph, j.program, api.Conf{Every: 5, Keep: 1, Cap: 12})
		if want := (api.Report{Saved: savedOf(operations[:n])}); got != e || report != want || (r.Outcome == api.None) != (e != api.OK) {
			t.Errorf("P11: with a quota of %d: %v, %v, %d, want %v, %d", quota, r, report, got, want, e)
		}
		if got, want := contents(d), contents(byHand); !slices.Equal(got, want) {
			t.Errorf("P11: with a quota of %d the disk has %q, want %q", quota, got, want)
		}
		d.Crash(0, nil)
		byHand.Crash(0, nil)
		if got, want := contents(d), contents(byHand); !slices.Equal(got, want) {
			t.Errorf("P11: with a quota of %d a crash leaves %q, want %q", quota, got, want)
		}
	}
}

// TestFullDiskGoesOnWithMoreRoom: what a full disk left is cleaned up, and the run goes on from what was saved.
func TestFullDiskGoesOnWithMoreRoom(t *testing.T) {
	c := api.Conf{Every: 5, Keep: 1, Cap: 12}
	d := diskWith(t, 100)
	checkNoResume(t, d, "a 0", counting(), c, api.ErrFull, 0, 1)
	checkNames(t, d, "c.5 m.10 m.5 v.10 v.5")
	checkNoResume(t, d, "a 0", counting(), c, api.ErrFull, 5, 0)
	d.Quota(138)
	checkResume(t, d, "a 0", counting(), c, 5, 1, api.Capped, 12, 12)
	d.Quota(0)
	checkResume(t, d, "a 0", counting(), c, 10, 0, api.Capped, 12, 12)
	checkNames(t, d, "c.10 m.10 v.10")
	checkNoResume(t, d, "a 1", counting(), c, api.ErrFull, 0, 0)
	checkNames(t, d, "v.5")
}
