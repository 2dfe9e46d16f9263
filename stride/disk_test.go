package stride_test

import (
	"math"
	"slices"
	"strings"
	"testing"

	"stride/api"
	"stride/stride"
)

// operate does an operation that is written out, such as "append x abc": its name and what it is handed, with a blank between each two.
func operate(d *stride.Disk, operation string) api.Errno {
	words := append(strings.SplitN(operation, " ", 3), "", "")
	name, other := words[1], words[2]
	switch words[0] {
	case "create":
		return d.Create(name)
	case "append":
		return d.Append(name, other)
	case "sync":
		return d.Sync(name)
	case "rename":
		return d.Rename(name, other)
	case "remove":
		return d.Remove(name)
	case "syncdir":
		return d.SyncDir()
	}
	panic("no operation: " + operation)
}

// diskWith: a new disk on which the operations have been done, all with OK.
func diskWith(t *testing.T, quota int, operations ...string) *stride.Disk {
	t.Helper()
	d := stride.NewDisk(quota)
	if d == nil {
		t.Fatalf("P8: NewDisk(%d) is nil", quota)
	}
	checkDone(t, d, operations...)
	return d
}

func checkDone(t *testing.T, d *stride.Disk, operations ...string) {
	t.Helper()
	for _, o := range operations {
		checkAnswer(t, d, o, api.OK)
	}
}

func checkAnswer(t *testing.T, d *stride.Disk, operation string, want api.Errno) {
	t.Helper()
	if e := operate(d, operation); e != want {
		t.Errorf("P8: %.60s = %d, want %d", operation, e, want)
	}
}

// checkDisk: the disk has just these files, each written as name=bytes.
func checkDisk(t *testing.T, d *stride.Disk, want ...string) {
	t.Helper()
	list, e := d.List()
	if e != api.OK {
		t.Errorf("P9: List = %d", e)
	}
	var got []string
	used := 0
	for _, name := range list {
		bytes, e := d.Read(name)
		if e != api.OK {
			t.Errorf("P9: Read(%q) = %d", name, e)
		}
		got = append(got, name+"="+bytes)
		used += len(bytes)
	}
	if !slices.Equal(got, want) || d.Used() != used {
		t.Errorf("P9: the disk has %q (%d bytes), want %q", got, d.Used(), want)
	}
}

func TestNewDiskIsEmpty(t *testing.T) {
	for _, quota := range []int{math.MinInt, -1, 0, 1, math.MaxInt} {
		checkDisk(t, diskWith(t, quota))
		checkDisk(t, diskWith(t, quota, "create a", "syncdir"), "a=")
	}
}

func TestDiskExample(t *testing.T) {
	example := func() *stride.Disk {
		d := diskWith(t, 5, "create x", "append x abc")
		checkAnswer(t, d, "append x def", api.ErrFull)
		checkDone(t, d, "sync x", "syncdir", "append x d", "create y", "rename x z")
		checkDisk(t, d, "y=", "z=abcd")
		return d
	}
	d := example()
	d.Crash(1, nil)
	checkDisk(t, d, "x=abc", "y=")
	d = example()
	d.Crash(2, []int{0, 1})
	checkDisk(t, d, "y=", "z=abcd")
}

func TestFileNames(t *testing.T) {
	all := "abcdefghijklmnopqrstuvwxyz0123456789."
	right := []string{"abcdefghijkl", "............", "0", "c.200", "t"}
	for i := range len(all) {
		right = append(right, all[i:i+1], "x"+all[i:i+1]+"y")
	}
	wrong := []string{"", "abcdefghijklm", strings.Repeat("a", 1<<20), "é", "\xff", "a\xff", "ａ"}
	for b := range 256 {
		if name := string([]byte{byte(b)}); !strings.Contains(all, name) {
			wrong = append(wrong, name, "a"+name, name+"a", "a"+name+"a")
		}
	}
	for _, name := range right {
		d := diskWith(t, 10, "create old", "append old 1", "create "+name, "append "+name+" 2")
		if bytes, e := d.Read(name); bytes != "2" || e != api.OK {
			t.Errorf("P8: %q is created, but has %q, %d", name, bytes, e)
		}
		checkDone(t, d, "rename old "+name)
		checkDisk(t, d, name+"=1")
	}
	for _, name := range wrong {
		d := diskWith(t, 10, "create old", "append old 1")
		got := []api.Errno{d.Create(name), d.Rename("old", name), d.Rename("none", name), d.Rename(name, name), d.Append(name, ""), d.Sync(name), d.Rename(name, "new"), d.Remove(name)}
		want := []api.Errno{api.ErrFile, api.ErrFile, api.ErrFile, api.ErrFile, api.ErrNone, api.ErrNone, api.ErrNone, api.ErrNone}
		if !slices.Equal(got, want) {
			t.Errorf("P8: with the name %.60q: %v, want %v", name, got, want)
		}
		if bytes, e := d.Read(name); bytes != "" || e != api.ErrNone {
			t.Errorf("P9: Read(%.60q) = %q, %d", name, bytes, e)
		}
		checkDisk(t, d, "old=1")
	}
}

func TestWhatIsNotThere(t *testing.T) {
	d := diskWith(t, 10, "create a", "append a 1", "create gone", "append gone 2", "remove gone")
	for _, o := range []string{"append gone 3", "append gone ", "sync gone", "rename gone b", "rename gone gone", "remove gone", "append aa 3", "sync aa", "rename aa a", "remove aa"} {
		checkAnswer(t, d, o, api.ErrNone)
	}
	if bytes, e := d.Read("gone"); bytes != "" || e != api.ErrNone {
		t.Errorf("P9: Read of a name that is not there = %q, %d", bytes, e)
	}
	checkDisk(t, d, "a=1")
}

func TestNamesInPlaceOfOthers(t *testing.T) {
	d := diskWith(t, 100, "create b", "append b 22", "create a", "append a 1", "create c", "append c 333")
	checkDisk(t, d, "a=1", "b=22", "c=333")
	checkDone(t, d, "append a 0", "rename a a")
	checkDisk(t, d, "a=10", "b=22", "c=333")
	checkDone(t, d, "rename a c")
	checkDisk(t, d, "b=22", "c=10")
	checkDone(t, d, "create b", "append c 5")
	checkDisk(t, d, "b=", "c=105")
	checkDone(t, d, "rename c a", "rename b c", "append c 7")
	checkDisk(t, d, "a=105", "c=7")
	checkDone(t, d, "remove a", "remove c")
	checkDisk(t, d)
}

// TestListRises: by bytes, so that . is ahead of the digits, and a name ahead of those that begin with it.
func TestListRises(t *testing.T) {
	d := diskWith(t, 0)
	names := []string{"z", "v.10", "v.9", ".", "0", "v.1", "9", "a", "v", "aa", "t", "ab", "v.100"}
	for _, name := range names {
		checkDone(t, d, "create "+name)
	}
	want := []string{".", "0", "9", "a", "aa", "ab", "t", "v", "v.1", "v.10", "v.100", "v.9", "z"}
	if list, e := d.List(); !slices.Equal(list, want) || e != api.OK {
		t.Errorf("P9: List = %q, %d, want %q", list, e, want)
	}
}

func TestAnyBytesAreKept(t *testing.T) {
	all := ""
	for b := range 256 {
		all += string([]byte{byte(b)})
	}
	d := diskWith(t, 1<<20, "create x")
	for range 3 {
		if e := d.Append("x", all); e != api.OK {
			t.Errorf("P8: Append = %d", e)
		}
	}
	checkDisk(t, d, "x="+all+all+all)
}

func TestQuotaIsMetJustAndNotPassed(t *testing.T) {
	d := diskWith(t, 5, "create a", "append a 123", "create b", "append b 45", "append b ", "append a ")
	checkAnswer(t, d, "append a 6", api.ErrFull)
	checkAnswer(t, d, "append b 6", api.ErrFull)
	checkDisk(t, d, "a=123", "b=45")
	checkDone(t, d, "remove b", "append a 45")
	checkAnswer(t, d, "append a 6", api.ErrFull)
	d = diskWith(t, 5, "create a")
	checkAnswer(t, d, "append a 123456", api.ErrFull)
	checkDone(t, d, "append a 12345")
}

func TestSmallQuotas(t *testing.T) {
	d := diskWith(t, 0, "create a", "append a ")
	checkAnswer(t, d, "append a 1", api.ErrFull)
	for _, quota := range []int{-1, -1000, math.MinInt} {
		d = diskWith(t, quota, "create a", "sync a", "rename a b", "syncdir")
		checkAnswer(t, d, "append b ", api.ErrFull)
		checkAnswer(t, d, "append b 1", api.ErrFull)
		checkAnswer(t, d, "append none 1", api.ErrNone)
		checkDone(t, d, "remove b")
	}
	diskWith(t, math.MaxInt, "create a", "append a 1", "append a 2")
}

// TestOnlyFilesWithNamesAreUsed: what a crash may bring back takes no room until then, and may take more than there is.
func TestOnlyFilesWithNamesAreUsed(t *testing.T) {
	d := diskWith(t, 3, "create a", "append a 123", "sync a", "syncdir", "create a", "append a 456", "remove a", "create b", "append b 789")
	checkAnswer(t, d, "append b 0", api.ErrFull)
	checkDone(t, d, "create c", "rename c b", "append b 12")
	checkDisk(t, d, "b=12")
	d.Crash(0, nil)
	checkDisk(t, d, "a=123")
	d = diskWith(t, 3, "create a", "append a 123", "sync a", "create b", "syncdir", "remove a", "append b 456", "sync b")
	d.Crash(0, nil)
	checkDisk(t, d, "a=123", "b=456")
	checkAnswer(t, d, "append a ", api.ErrFull)
}

func TestQuotaIsSetAnew(t *testing.T) {
	d := diskWith(t, 3, "create a", "append a 123")
	d.Quota(2)
	checkDisk(t, d, "a=123")
	checkAnswer(t, d, "append a ", api.ErrFull)
	d.Quota(4)
	checkDone(t, d, "append a 4")
	checkAnswer(t, d, "append a 5", api.ErrFull)
	d.Quota(-1)
	checkDone(t, d, "create a")
	checkAnswer(t, d, "append a ", api.ErrFull)
	d.Crash(9, nil)
	checkAnswer(t, d, "append a ", api.ErrFull)
	d.Quota(math.MaxInt)
	checkDone(t, d, "append a 12345")
}
