package stride_test

import (
	"math"
	"slices"
	"testing"

	"stride/api"
	"stride/stride"
)

// checkDown: the disk is down for all that can be down, whatever would be wrong besides.
func checkDown(t *testing.T, d *stride.Disk) {
	t.Helper()
	for _, o := range []string{"create a", "create A", "append a 1", "append none 1", "sync a", "sync none", "rename a b", "rename a A", "rename none b", "remove a", "remove none", "syncdir"} {
		checkAnswer(t, d, o, api.ErrDown)
	}
	if list, e := d.List(); list != nil || e != api.ErrDown {
		t.Errorf("P10: List of a disk that is down = %q, %d", list, e)
	}
	for _, name := range []string{"a", "none", ""} {
		if bytes, e := d.Read(name); bytes != "" || e != api.ErrDown {
			t.Errorf("P10: Read(%q) of a disk that is down = %q, %d", name, bytes, e)
		}
	}
}

func TestArmedDiskGoesDown(t *testing.T) {
	for n := range 7 {
		d := diskWith(t, 100)
		d.Arm(n)
		operations := []string{"create a", "append a 1", "sync a", "rename a b", "syncdir", "remove b", "create c"}
		checkDone(t, d, operations[:n]...)
		if _, e := d.List(); e != api.OK {
			t.Errorf("P10: List of a disk that is armed, but not down = %d", e)
		}
		checkAnswer(t, d, operations[n], api.ErrDown)
		checkDown(t, d)
	}
}

// TestOperationOfACrashIsNotDone: each kind, with what the disk has if all that was done stays.
func TestOperationOfACrashIsNotDone(t *testing.T) {
	for _, o := range []string{"create b", "append a 2", "rename a b", "remove a", "create a"} {
		d := diskWith(t, 100, "create a", "append a 1")
		d.Arm(0)
		checkAnswer(t, d, o, api.ErrDown)
		d.Crash(9, []int{9})
		checkDisk(t, d, "a=1")
	}
	d := diskWith(t, 100, "create a", "append a 1", "syncdir")
	d.Arm(0)
	checkAnswer(t, d, "sync a", api.ErrDown)
	d.Crash(9, nil)
	checkDisk(t, d, "a=")
	d = diskWith(t, 100, "create a")
	d.Arm(0)
	checkAnswer(t, d, "syncdir", api.ErrDown)
	d.Crash(0, nil)
	checkDisk(t, d)
}

func TestOperationsCountWhateverTheyAnswer(t *testing.T) {
	refused := []struct {
		operation string
		want      api.Errno
	}{
		{"create A", api.ErrFile}, {"append none 1", api.ErrNone}, {"append a 123456", api.ErrFull}, {"sync none", api.ErrNone},
		{"rename a A", api.ErrFile}, {"rename none b", api.ErrNone}, {"rename a a", api.OK}, {"remove none", api.ErrNone}, {"syncdir", api.OK}, {"append a ", api.OK},
	}
	d := diskWith(t, 5, "create a")
	d.Arm(len(refused))
	for _, r := range refused {
		checkAnswer(t, d, r.operation, r.want)
	}
	checkAnswer(t, d, "append a 1", api.ErrDown)
	for _, r := range refused {
		d = diskWith(t, 5, "create a")
		d.Arm(1)
		checkAnswer(t, d, r.operation, r.want)
		checkAnswer(t, d, r.operation, api.ErrDown)
	}
}

func TestWhatIsNoOperationDoesNotCount(t *testing.T) {
	d := diskWith(t, 5, "create a")
	d.Arm(1)
	for range 5 {
		d.List()
		d.Read("a")
		d.Read("none")
		d.Used()
		d.Quota(9)
	}
	checkDone(t, d, "append a 1234567")
	checkAnswer(t, d, "sync a", api.ErrDown)
}

func TestArmAnew(t *testing.T) {
	d := diskWith(t, 100, "create a")
	for _, n := range []int{-1, -2, math.MinInt} {
		d.Arm(1)
		d.Arm(n)
		checkDone(t, d, "sync a", "sync a", "sync a")
		d.Arm(0)
		d.Arm(n)
		checkDone(t, d, "sync a", "sync a")
	}
	d.Arm(1)
	checkDone(t, d, "sync a")
	d.Arm(2)
	checkDone(t, d, "sync a", "sync a")
	checkAnswer(t, d, "sync a", api.ErrDown)
	d.Crash(9, nil)
	d.Arm(5)
	d.Arm(0)
	checkAnswer(t, d, "sync a", api.ErrDown)
	d.Crash(9, nil)
	d.Arm(math.MaxInt)
	checkDone(t, d, "sync a", "sync a", "sync a")
}

func TestDownUntilCrash(t *testing.T) {
	d := diskWith(t, 3, "create a", "append a 123", "sync a", "syncdir")
	d.Arm(0)
	checkDown(t, d)
	if d.Used() != 3 {
		t.Errorf("P9: Used of a disk that is down = %d", d.Used())
	}
	for _, n := range []int{-1, 0, 1, 100} {
		d.Arm(n)
		checkDown(t, d)
	}
	d.Quota(4)
	checkDown(t, d)
	d.Crash(0, nil)
	checkDisk(t, d, "a=123")
	checkDone(t, d, "append a 4")
	checkAnswer(t, d, "append a 5", api.ErrFull)
}

// TestUsedOfADownDisk: the names that stand now are those from ahead of the crash.
func TestUsedOfADownDisk(t *testing.T) {
	d := diskWith(t, 100, "create a", "append a 123", "create b", "append b 4567", "remove a")
	d.Arm(0)
	checkAnswer(t, d, "syncdir", api.ErrDown)
	if d.Used() != 4 {
		t.Errorf("P9: Used of a disk that is down = %d, want 4", d.Used())
	}
	d.Crash(0, nil)
	if d.Used() != 0 {
		t.Errorf("P9: Used of an empty disk = %d", d.Used())
	}
}

func TestCrashDisarms(t *testing.T) {
	d := diskWith(t, 100, "create a", "syncdir")
	for _, n := range []int{0, 1, 2} {
		d.Arm(n)
		d.Crash(0, nil)
		checkDone(t, d, "sync a", "sync a", "sync a", "sync a")
		d.Arm(0)
		checkAnswer(t, d, "sync a", api.ErrDown)
		d.Arm(n)
		d.Crash(0, nil)
		checkDone(t, d, "sync a", "sync a", "sync a", "sync a")
	}
}

// TestFirstChangesStay: each number of changes leaves the names as they were behind so many.
func TestFirstChangesStay(t *testing.T) {
	operations := []string{"remove a", "create c", "rename c b", "create a", "rename b d", "create d", "remove a", "create a", "rename a a"}
	stays := [][]string{
		{"a=1", "b=2"}, {"b=2"}, {"b=2", "c="}, {"b="}, {"a=", "b="}, {"a=", "d="}, {"a=", "d="}, {"d="}, {"a=", "d="},
	}
	check := func(dir int, want []string) {
		t.Helper()
		d := diskWith(t, 100, "create a", "append a 1", "sync a", "create b", "append b 2", "sync b", "syncdir")
		checkDone(t, d, operations...)
		d.Crash(dir, nil)
		checkDisk(t, d, want...)
		d.Crash(9, []int{9, 9, 9})
		checkDisk(t, d, want...)
		d.Crash(0, nil)
		checkDisk(t, d, want...)
	}
	for dir, want := range stays {
		check(dir, want)
	}
	for _, dir := range []int{-1, -100, math.MinInt} {
		check(dir, stays[0])
	}
	for _, dir := range []int{len(stays), 100, math.MaxInt} {
		check(dir, stays[len(stays)-1])
	}
}

// TestWhatIsRefusedIsNoChange: it takes no place among the changes.
func TestWhatIsRefusedIsNoChange(t *testing.T) {
	d := diskWith(t, 1, "create a")
	for _, o := range []string{"create A", "append a 22", "append none 1", "sync none", "rename a A", "rename none b", "remove none", "rename a a", "append a 1", "sync a"} {
		operate(d, o)
	}
	checkDone(t, d, "create b")
	d.Crash(2, nil)
	checkDisk(t, d, "a=1", "b=")
}

// TestChangesThatComeToNothing: a name that came and went between is still two changes.
func TestChangesThatComeToNothing(t *testing.T) {
	for dir, want := range [][]string{{}, {"a="}, {}, {"b="}} {
		d := diskWith(t, 100, "syncdir", "create a", "remove a", "create b")
		d.Crash(dir, nil)
		checkDisk(t, d, want...)
	}
}

func TestNamesAreSafeFromSyncDirOn(t *testing.T) {
	d := diskWith(t, 100, "create a", "create b", "syncdir", "remove a", "rename b c", "syncdir", "create d")
	d.Crash(0, nil)
	checkDisk(t, d, "c=")
	checkDone(t, d, "create e")
	d.Crash(0, nil)
	checkDisk(t, d, "c=")
	checkDone(t, d, "create e")
	d.Crash(1, nil)
	checkDone(t, d, "remove c")
	d.Crash(-1, nil)
	checkDisk(t, d, "c=", "e=")
}

// TestNamesAndBytesAreSafeApart: neither Sync nor SyncDir does the other's work.
func TestNamesAndBytesAreSafeApart(t *testing.T) {
	d := diskWith(t, 100, "create a", "append a 1", "sync a")
	d.Crash(0, nil)
	checkDisk(t, d)
	d = diskWith(t, 100, "create a", "append a 1", "syncdir")
	d.Crash(0, nil)
	checkDisk(t, d, "a=")
	d = diskWith(t, 100, "create a", "create b", "append a 1", "append b 2", "sync a", "syncdir")
	d.Crash(0, nil)
	checkDisk(t, d, "a=1", "b=")
}

func TestBytesThatAreKept(t *testing.T) {
	for _, c := range []struct {
		keep []int
		want []string
	}{
		{nil, []string{"a=12", "b=", "c=9"}},
		{[]int{}, []string{"a=12", "b=", "c=9"}},
		{[]int{1}, []string{"a=123", "b=", "c=9"}},
		{[]int{0, 2}, []string{"a=12", "b=67", "c=9"}},
		{[]int{3, 3, 0}, []string{"a=12345", "b=678", "c=9"}},
		{[]int{4, 4, 1}, []string{"a=12345", "b=678", "c=9"}},
		{[]int{-1, 1, -1}, []string{"a=12", "b=6", "c=9"}},
		{[]int{math.MaxInt, math.MinInt, math.MaxInt}, []string{"a=12345", "b=", "c=9"}},
		{[]int{math.MinInt, math.MaxInt, math.MinInt, 1, 1}, []string{"a=12", "b=678", "c=9"}},
	} {
		d := diskWith(t, 100, "create c", "create a", "create b", "append c 9", "append b 6", "append a 12", "sync a", "sync c", "append a 345", "append b 78", "syncdir")
		d.Crash(0, c.keep)
		checkDisk(t, d, c.want...)
		d.Crash(0, nil)
		checkDisk(t, d, c.want...)
	}
}

// TestKeepGoesByTheNamesThatAreLeft: the first of them keeps a byte, whichever was the first ahead of the crash.
func TestKeepGoesByTheNamesThatAreLeft(t *testing.T) {
	for dir, want := range [][]string{{"b=2", "c="}, {"a=1", "b=", "c="}, {"a=1", "c="}, {"c=3", "d="}} {
		d := diskWith(t, 100, "create b", "create c", "append b 2", "append c 3", "syncdir", "create a", "append a 1", "remove b", "rename a d")
		d.Crash(dir, []int{1})
		checkDisk(t, d, want...)
	}
}

// TestFilesKeepTheirBytesUnderAnyName: what was written and made safe under a new name is there under the old one, if the crash takes the new one.
func TestFilesKeepTheirBytesUnderAnyName(t *testing.T) {
	operations := []string{"create a", "append a 1", "syncdir", "rename a b", "append b 2", "sync b", "append b 3"}
	d := diskWith(t, 100, operations...)
	d.Crash(0, nil)
	checkDisk(t, d, "a=12")
	d = diskWith(t, 100, operations...)
	d.Crash(0, []int{1})
	checkDisk(t, d, "a=123")
	d = diskWith(t, 100, append(operations, "remove b")...)
	d.Crash(1, []int{1})
	checkDisk(t, d, "b=123")
	d = diskWith(t, 100, append(operations, "create a", "append a 9", "sync a")...)
	d.Crash(0, []int{1})
	checkDisk(t, d, "a=123")
}

// TestReplacedFilesComeBack: a file whose name was given to another is still there, with its own bytes.
func TestReplacedFilesComeBack(t *testing.T) {
	operations := []string{"create a", "append a 12", "sync a", "append a 3", "syncdir", "create a", "append a 45", "create b", "append b 6", "rename b a", "append a 7"}
	for dir, want := range [][]string{{"a=123"}, {"a=4"}, {"a=4", "b="}, {"a=6"}} {
		d := diskWith(t, 100, operations...)
		checkDisk(t, d, "a=67")
		d.Crash(dir, []int{1})
		checkDisk(t, d, want...)
	}
}

// TestLostBytesStayLost: what is written behind a crash stands where the lost bytes stood.
func TestLostBytesStayLost(t *testing.T) {
	d := diskWith(t, 100, "create a", "append a 12", "sync a", "append a 345", "syncdir")
	d.Crash(0, []int{1})
	checkDone(t, d, "append a 9")
	checkDisk(t, d, "a=1239")
	d.Crash(0, nil)
	checkDisk(t, d, "a=123")
	checkDone(t, d, "create a")
	d.Crash(1, []int{9})
	checkDisk(t, d, "a=")
}

// TestDiskSharesNoMemory: P2, lists go in and out without being written into, kept, or held in common.
func TestDiskSharesNoMemory(t *testing.T) {
	d := diskWith(t, 100, "create a", "create b", "create c", "append a 1", "append b 2", "append c 3", "syncdir")
	keep := []int{0, 1, 5, -5}
	d.Crash(0, keep[:2])
	if !slices.Equal(keep, []int{0, 1, 5, -5}) {
		t.Errorf("P2: Crash has made %v of its list", keep)
	}
	keep[0], keep[1] = 1, 0
	checkDisk(t, d, "a=", "b=2", "c=")
	first, _ := d.List()
	second, _ := d.List()
	for i := range first[:cap(first)] {
		first[:cap(first)][i] = "zz"
	}
	if !slices.Equal(second, []string{"a", "b", "c"}) {
		t.Errorf("P2: two lists share memory: %q", second)
	}
	checkDone(t, d, "remove a", "create d")
	if !slices.Equal(second, []string{"a", "b", "c"}) {
		t.Errorf("P2: a list has changed with the disk: %q", second)
	}
	checkDisk(t, d, "b=2", "c=", "d=")
}

func TestReadIsOfItsTime(t *testing.T) {
	d := diskWith(t, 100, "create a", "append a 12", "syncdir")
	before, _ := d.Read("a")
	d.Crash(0, nil)
	checkDone(t, d, "append a 34")
	if before != "12" {
		t.Errorf("P2: what Read told has become %q", before)
	}
}
