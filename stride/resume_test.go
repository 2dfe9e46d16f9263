package stride_test

import (
	"math"
	"reflect"
	"slices"
	"strconv"
	"strings"
	"testing"

	"stride/api"
	"stride/stride"
)

const vast = 1 << 40

// counting: a program that counts up to 30, one a step.
func counting() string {
	return still("new: value 1 +", "halt: value 30 < 0 =", "give: value")
}

// counted: the state of a counting vertex that began with 0, ahead of a step.
func counted(step int) state {
	return state{step, []int64{int64(step)}, []bool{step >= 30}, []int{0}, []int64{0}, int64(step)}
}

func checkResume(t *testing.T, d *stride.Disk, graph, program string, c api.Conf, from, saved int, want api.Outcome, step int, values ...int64) {
	t.Helper()
	r, report, e := stride.Resume(d, graph, program, c)
	if e != api.OK || report != (api.Report{From: from, Saved: saved}) || !sameResult(r, api.Result{Outcome: want, Step: step, Values: values}) {
		t.Errorf("P11: Resume(%.60q, %.60q, %v) = %v, %v, %d, want %d, %d, %v, from %d, %d saved", graph, program, c, r, report, e, want, step, values, from, saved)
	}
}

func checkNoResume(t *testing.T, d *stride.Disk, graph, program string, c api.Conf, want api.Errno, from, saved int) {
	t.Helper()
	r, report, e := stride.Resume(d, graph, program, c)
	if e != want || report != (api.Report{From: from, Saved: saved}) || !reflect.DeepEqual(r, api.Result{}) {
		t.Errorf("P11: Resume(%.60q, %.60q, %v) = %v, %v, %d, want %d, from %d, %d saved", graph, program, c, r, report, e, want, from, saved)
	}
}

// checkNames: the disk has files of just these names.
func checkNames(t *testing.T, d *stride.Disk, want string) {
	t.Helper()
	if list, e := d.List(); strings.Join(list, " ") != want || e != api.OK {
		t.Errorf("P13, P14: the disk has %q, %d, want %s", list, e, want)
	}
}

// contents: a disk's files, each as name=bytes.
func contents(d *stride.Disk) []string {
	var all []string
	list, _ := d.List()
	for _, name := range list {
		bytes, _ := d.Read(name)
		all = append(all, name+"="+bytes)
	}
	return all
}

func TestResumeSavesAndEnds(t *testing.T) {
	d := diskWith(t, vast)
	checkResume(t, d, "a 0", counting(), api.Conf{Every: 10, Keep: 5, Cap: 200}, 0, 2, api.Quiet, 30, 30)
	checkNames(t, d, "c.10 c.20 m.10 m.20 v.10 v.20")
	d = diskWith(t, vast)
	checkResume(t, d, roads, named(t, "reach"), api.Conf{Every: 1, Keep: 3, Cap: 10}, 0, 2, api.Quiet, 3, 0, 3, 1, far)
	checkNames(t, d, "c.1 c.2 m.1 m.2 v.1 v.2")
	d = diskWith(t, vast)
	checkResume(t, d, "a 0", counting(), api.Conf{Every: 2, Keep: 1, Cap: 7}, 0, 3, api.Capped, 7, 7)
	checkNames(t, d, "c.6 m.6 v.6")
}

// TestSnapshotBytes: all of P12's numbers, written out.
func TestSnapshotBytes(t *testing.T) {
	const graph = "a -2\nb 7\na>b 3\na>b 4\nb>a 5"
	text := still("go: 1", "msg: value weight +", "halt: id", "give: value", "by: sum", "all: min")
	d := diskWith(t, vast)
	checkResume(t, d, graph, text, api.Conf{Every: 1, Keep: 5, Cap: 2}, 0, 1, api.Capped, 2, -2, 7)
	v := rightlySealed("\xfe\xff\xff\xff\xff\xff\xff\xff\x00" + "\x07\x00\x00\x00\x00\x00\x00\x00\x01")
	m := rightlySealed("\x01\x00\x00\x00\x0c\x00\x00\x00\x00\x00\x00\x00" + "\x02\x00\x00\x00\x03\x00\x00\x00\x00\x00\x00\x00")
	sum := func(text string) string { return sealedAs(0, sumOf(text), "")[4:8] }
	c := rightlySealed("\x01\x00\x00\x00" + "\xfe\xff\xff\xff\xff\xff\xff\xff" + sum(graph+"\x00"+text+"\x002") + sum(v) + sum(m))
	checkDisk(t, d, "c.1="+c, "m.1="+m, "v.1="+v)
	d = diskWith(t, vast)
	checkResume(t, d, "a 0", counting(), api.Conf{Every: 29, Keep: 1, Cap: 200}, 0, 1, api.Quiet, 30, 30)
	f := counted(29).files(jobOf("a 0", counting(), 200))
	checkDisk(t, d, "c.29="+f.c, "m.29="+f.m, "v.29="+f.v)
}

func TestResumeOfAJobThatIsDone(t *testing.T) {
	d := diskWith(t, vast)
	c := api.Conf{Every: 7, Keep: 2, Cap: 200}
	checkResume(t, d, "a 0", counting(), c, 0, 4, api.Quiet, 30, 30)
	before := contents(d)
	for range 3 {
		d.Arm(0) // no operation is needed
		checkResume(t, d, "a 0", counting(), c, 28, 0, api.Quiet, 30, 30)
		d.Arm(-1)
		checkDisk(t, d, before...)
	}
	d.Crash(0, nil)
	checkDisk(t, d, before...)
}

func TestResumeBehindACrash(t *testing.T) {
	d := diskWith(t, vast)
	c := api.Conf{Every: 5, Keep: 1, Cap: 200}
	d.Arm(11 + 11 + 4 + 8) // two are saved, one is removed, the third is being written
	checkNoResume(t, d, "a 0", counting(), c, api.ErrDown, 0, 2)
	checkNoResume(t, d, "a 0", counting(), c, api.ErrDown, 0, 0)
	d.Crash(99, nil)
	checkNames(t, d, "c.10 m.10 m.15 t v.10 v.15")
	checkResume(t, d, "a 0", counting(), c, 10, 3, api.Quiet, 30, 30)
	checkNames(t, d, "c.25 m.25 v.25")
}

func TestJobsOnOneDisk(t *testing.T) {
	d := diskWith(t, vast)
	c := api.Conf{Every: 10, Keep: 3, Cap: 200}
	checkResume(t, d, "a 0", counting(), c, 0, 2, api.Quiet, 30, 30)
	// how often and how many are saved is not of the job
	checkResume(t, d, "a 0", counting(), api.Conf{Every: 1, Keep: 2, Cap: 200}, 20, 9, api.Quiet, 30, 30)
	checkNames(t, d, "c.28 c.29 m.28 m.29 v.28 v.29")
	// each of these is another job, to which the other snapshots are nothing
	for _, j := range []job{
		{"a 0", counting(), 199}, {"a 0\n", counting(), 199}, {"b 0", counting(), 199}, {"b 0", still("new: value 1 +", "halt: value 30 < 0 =", "give: 1"), 199}, {"a 0", counting(), 200},
	} {
		checkResume(t, d, j.graph, j.program, api.Conf{Every: 10, Keep: 3, Cap: j.limit}, 0, 2, api.Quiet, 30, 30)
		checkNames(t, d, "c.10 c.20 m.10 m.20 v.10 v.20")
	}
	checkResume(t, d, "", counting(), c, 0, 0, api.Quiet, 0)
	checkNames(t, d, "")
}

// TestJobTextsStandApart: a byte 0 stands between each two of what the job's sum is made of, and no other byte.
func TestJobTextsStandApart(t *testing.T) {
	for _, bytes := range []string{"a 0" + counting() + "200", "a 0\x00" + counting() + "200", "a 0" + counting() + "\x00200", "a 0\x00" + counting() + "\x00200\x00", "a 0\n" + counting() + "\n200", "a 0\x00" + counting() + "\x000200"} {
		d := diskWith(t, vast)
		lay(t, d, counted(20).files(sumOf(bytes)), 20)
		checkResume(t, d, "a 0", counting(), api.Conf{Every: 50, Keep: 1, Cap: 200}, 0, 0, api.Quiet, 30, 30)
	}
}

func TestResumeTellsTheErrorNamedFirst(t *testing.T) {
	up := diskWith(t, vast, "create x", "append x y")
	down := diskWith(t, vast)
	down.Arm(0)
	down.SyncDir()
	for _, d := range []*stride.Disk{up, down} {
		for _, c := range []api.Conf{{}, {Every: 1, Keep: 1, Cap: 1}, {Every: 1, Keep: 1, Cap: 201}} {
			for _, text := range []string{"", program("new: +"), strings.Repeat("x", 2001), still()} {
				checkNoResume(t, d, strings.Repeat("\n", 4001), text, c, api.ErrLong, 0, 0)
				checkNoResume(t, d, "a 1\n\xff", text, c, api.ErrRune, 0, 0)
				checkNoResume(t, d, "a", text, c, api.ErrForm, 0, 0)
				checkNoResume(t, d, "a 1\na 1", text, c, api.ErrTwice, 0, 0)
				checkNoResume(t, d, "a 1\na>b 1", text, c, api.ErrName, 0, 0)
				checkNoResume(t, d, manyVertices(65), text, c, api.ErrMany, 0, 0)
			}
			checkNoResume(t, d, "a 1", strings.Repeat("x", 2001), c, api.ErrLong, 0, 0)
			checkNoResume(t, d, "a 1", "", c, api.ErrForm, 0, 0)
			checkNoResume(t, d, "a 1", still("new: +"), c, api.ErrStack, 0, 0)
		}
		checkNoResume(t, d, "a 1", still(), api.Conf{}, api.ErrConf, 0, 0)
	}
	checkNoResume(t, down, "a 1", still(), api.Conf{Every: 1, Keep: 1, Cap: 0}, api.ErrDown, 0, 0)
	checkNoResume(t, down, "", still(), api.Conf{Every: 1, Keep: 1, Cap: 0}, api.ErrDown, 0, 0)
	checkDisk(t, up, "x=y")
}

func TestResumeLimits(t *testing.T) {
	right := map[string][]int{"every": {1, 2, 49, 50}, "keep": {1, 2, 4, 5}, "cap": {0, 1, 199, 200}}
	wrong := map[string][]int{"every": {0, -1, 51}, "keep": {0, -1, 6}, "cap": {-1, -2, 201}}
	confOf := func(kind string, n int) api.Conf {
		c := api.Conf{Every: 50, Keep: 5, Cap: 200}
		*map[string]*int{"every": &c.Every, "keep": &c.Keep, "cap": &c.Cap}[kind] = n
		return c
	}
	for kind := range right {
		for _, n := range append(wrong[kind], math.MaxInt, math.MinInt, 1<<32+1, math.MinInt32) {
			d := diskWith(t, vast, "create x")
			d.Arm(0) // nothing is done
			checkNoResume(t, d, "a 1", counting(), confOf(kind, n), api.ErrConf, 0, 0)
			checkDisk(t, d, "x=")
		}
		for _, n := range right[kind] {
			c := confOf(kind, n)
			ever := still("new: value 1 +", "halt: 0")
			checkResume(t, diskWith(t, vast), "a 0", ever, c, 0, max(0, (c.Cap-1)/c.Every), api.Capped, c.Cap, int64(c.Cap))
		}
	}
}

func TestEveryAndKeepAtTheirEnds(t *testing.T) {
	ever := still("new: value 1 +", "halt: 0")
	d := diskWith(t, vast)
	checkResume(t, d, "a 0", ever, api.Conf{Every: 50, Keep: 5, Cap: 200}, 0, 3, api.Capped, 200, 200)
	checkNames(t, d, "c.100 c.150 c.50 m.100 m.150 m.50 v.100 v.150 v.50")
	checkResume(t, d, "a 0", ever, api.Conf{Every: 1, Keep: 5, Cap: 200}, 150, 49, api.Capped, 200, 200)
	checkNames(t, d, "c.195 c.196 c.197 c.198 c.199 m.195 m.196 m.197 m.198 m.199 v.195 v.196 v.197 v.198 v.199")
	checkResume(t, d, "a 0", ever, api.Conf{Every: 1, Keep: 1, Cap: 200}, 199, 0, api.Capped, 200, 200)
	checkNames(t, d, "c.199 m.199 v.199")
	checkResume(t, d, "a 0", ever, api.Conf{Every: 50, Keep: 1, Cap: 199}, 0, 3, api.Capped, 199, 199)
	checkNames(t, d, "c.150 m.150 v.150")
}

func TestKeepFromResumeToResume(t *testing.T) {
	c := func(every, keep int) api.Conf { return api.Conf{Every: every, Keep: keep, Cap: 200} }
	d := diskWith(t, vast)
	checkResume(t, d, "a 0", counting(), c(8, 5), 0, 3, api.Quiet, 30, 30)
	checkNames(t, d, "c.16 c.24 c.8 m.16 m.24 m.8 v.16 v.24 v.8")
	checkResume(t, d, "a 0", counting(), c(8, 3), 24, 0, api.Quiet, 30, 30)
	checkNames(t, d, "c.16 c.24 c.8 m.16 m.24 m.8 v.16 v.24 v.8")
	checkResume(t, d, "a 0", counting(), c(8, 2), 24, 0, api.Quiet, 30, 30)
	checkNames(t, d, "c.16 c.24 m.16 m.24 v.16 v.24")
	// what was there counts among those that are kept, the least goes first by its number
	checkResume(t, d, "a 0", counting(), c(5, 2), 24, 1, api.Quiet, 30, 30)
	checkNames(t, d, "c.24 c.25 m.24 m.25 v.24 v.25")
	checkResume(t, d, "a 0", counting(), c(9, 3), 25, 1, api.Quiet, 30, 30)
	checkNames(t, d, "c.24 c.25 c.27 m.24 m.25 m.27 v.24 v.25 v.27")
	d = diskWith(t, vast)
	checkResume(t, d, "a 0", counting(), api.Conf{Every: 3, Keep: 2, Cap: 13}, 0, 4, api.Capped, 13, 13)
	checkNames(t, d, "c.12 c.9 m.12 m.9 v.12 v.9")
}

func TestNothingIsSavedWhereTheRunEnds(t *testing.T) {
	d := diskWith(t, vast)
	checkResume(t, d, "a 0", counting(), api.Conf{Every: 30, Keep: 1, Cap: 200}, 0, 0, api.Quiet, 30, 30)
	checkResume(t, d, "a 0", counting(), api.Conf{Every: 5, Keep: 1, Cap: 5}, 0, 0, api.Capped, 5, 5)
	checkResume(t, d, "a 0", counting(), api.Conf{Every: 1, Keep: 1, Cap: 0}, 0, 0, api.Capped, 0, 0)
	checkResume(t, d, "a 0", counting(), api.Conf{Every: 1, Keep: 1, Cap: 1}, 0, 0, api.Capped, 1, 1)
	checkResume(t, d, "", counting(), api.Conf{Every: 1, Keep: 1, Cap: 200}, 0, 0, api.Quiet, 0)
	checkNames(t, d, "")
	// ahead of a step in which a word fails the run does not end yet
	fails := still("new: value 1 +", "halt: 0", "give: 1 4 step - /")
	for every, saved := range map[int]int{1: 4, 2: 2, 3: 1, 4: 1, 5: 0} {
		d = diskWith(t, vast)
		r, report, e := stride.Resume(d, "a 0\nb 5", fails, api.Conf{Every: every, Keep: 5, Cap: 200})
		want := api.Result{Outcome: api.Faulted, Step: 4, Values: []int64{4, 9}}
		if !sameResult(r, want) || report != (api.Report{Saved: saved}) || e != api.OK {
			t.Errorf("P14: with %d: %v, %v, %d, want %v, %d saved", every, r, report, e, want, saved)
		}
		again, report, e := stride.Resume(d, "a 0\nb 5", fails, api.Conf{Every: every, Keep: 5, Cap: 200})
		if !sameResult(again, want) || report != (api.Report{From: saved * every}) || e != api.OK {
			t.Errorf("P11: with %d again: %v, %v, %d, want %v", every, again, report, e, want)
		}
	}
}

// TestNothingIsSavedAtTheStepFromWhichItGoesOn: neither there nor below.
func TestNothingIsSavedAtTheStepFromWhichItGoesOn(t *testing.T) {
	d := diskWith(t, vast)
	c := api.Conf{Every: 4, Keep: 1, Cap: 6}
	checkResume(t, d, "a 0", counting(), c, 0, 1, api.Capped, 6, 6)
	for _, every := range []int{1, 2, 3, 4} {
		lay(t, d, counted(4).files(jobOf("a 0", counting(), 6)), 4)
		c.Every = every
		checkResume(t, d, "a 0", counting(), c, 4, map[int]int{1: 1}[every], api.Capped, 6, 6)
		d = diskWith(t, vast)
	}
}

// TestResumedRunsComeToTheSame: a crash behind each operation, with several ways to lose what is not safe, and then as often as it takes.
func TestResumedRunsComeToTheSame(t *testing.T) {
	for _, j := range []job{
		{"a 0", counting(), 12}, {roads, named(t, "reach"), 9}, {"a 3\nb 1\nc 2\na>b 1\nb>c 2\nc>a 3", named(t, "rank"), 30},
		{"a 3\nb 1\na>b 1\nb>a 2", still("new: value in + all +", "go: 1", "msg: weight got +", "halt: step 2 %", "give: 8 step - value swap /"), 30},
	} {
		want, _ := stride.Run(j.graph, j.program, j.limit)
		for n := range 60 {
			for _, keep := range [][]int{nil, {9, 9, 9, 9, 9, 9, 9, 9}, {0, 99, 0, 99, 0, 99}} {
				c := api.Conf{Every: 1 + n%3, Keep: 1 + n%4, Cap: j.limit}
				d := diskWith(t, vast)
				d.Arm(n)
				_, first, e := stride.Resume(d, j.graph, j.program, c)
				d.Crash(n%5, keep)
				r, report, again := stride.Resume(d, j.graph, j.program, c)
				if !sameResult(r, want) || again != api.OK || report.From < first.Saved*c.Every || e != api.OK && e != api.ErrDown {
					t.Fatalf("P11: with a crash behind %d operations (%v, %d) the run comes to %v, %v, %d, want %v", n, first, e, r, report, again, want)
				}
			}
		}
	}
}

// TestResumeAnswersAreNew: P2, what is written into a result shows neither in another one nor on the disk.
func TestResumeAnswersAreNew(t *testing.T) {
	const graph = "a 5\nb 9\nc -2"
	ever := still("new: value 1 +", "halt: 0")
	d := diskWith(t, vast)
	c := api.Conf{Every: 2, Keep: 2, Cap: 5}
	first, _, _ := stride.Resume(d, graph, ever, c)
	before := contents(d)
	second, _, _ := stride.Resume(d, graph, ever, c)
	clear(first.Values[:cap(first.Values)])
	third, _, _ := stride.Resume(d, graph, ever, c)
	clear(third.Values[:cap(third.Values)])
	if want := []int64{10, 14, 3}; !slices.Equal(second.Values, want) {
		t.Errorf("P2: the result beside others that were written into is %v, want %v", second.Values, want)
	}
	checkDisk(t, d, before...)
	checkResume(t, d, graph, ever, c, 4, 0, api.Capped, 5, 10, 14, 3)
}

// TestResumesSideBySide: P2, disks that are used by turns answer as one does that is alone.
func TestResumesSideBySide(t *testing.T) {
	type answer struct {
		result api.Result
		report api.Report
		e      api.Errno
		has    []string
	}
	ask := func(d *stride.Disk, round int) (a answer) {
		d.Arm(20 - round)
		a.result, a.report, a.e = stride.Resume(d, "a 0", counting(), api.Conf{Every: 3, Keep: 2, Cap: 200})
		d.Crash(round%4, []int{99, 5})
		a.has = contents(d)
		return a
	}
	const rounds = 12
	var want []answer
	alone := diskWith(t, vast)
	for round := range rounds {
		want = append(want, ask(alone, round))
	}
	if last := want[rounds-1]; last.e != api.OK || want[0].e != api.ErrDown || last.report.From == 0 {
		t.Fatalf("P11: the first and the last answer are %v and %v", want[0], last)
	}
	disks := []*stride.Disk{diskWith(t, vast), diskWith(t, vast), diskWith(t, vast)}
	for turn := range rounds + 2*len(disks) {
		for i, d := range disks {
			if round := turn - 2*i; 0 <= round && round < rounds {
				if got := ask(d, round); !reflect.DeepEqual(got, want[round]) {
					t.Errorf("P2: disk %d answers %v in round %d, alone %v", i, got, round, want[round])
				}
			}
		}
	}
}

// TestResumeTakesAnyDisk: P1, with files of all kinds on it.
func TestResumeTakesAnyDisk(t *testing.T) {
	d := diskWith(t, vast)
	for i, bytes := range payloads() {
		for _, name := range []string{"c.", "m.", "v."} {
			d.Create(name + strconv.Itoa(i%40))
			d.Append(name+strconv.Itoa(i%40), bytes)
		}
		if i%7 == 0 {
			checkResume(t, d, "a 0", counting(), api.Conf{Every: 50, Keep: 5, Cap: 200}, 0, 0, api.Quiet, 30, 30)
			checkNames(t, d, "")
		}
	}
}
