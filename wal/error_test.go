package wal_test

import (
	"fmt"
	"math"
	"slices"
	"strings"
	"testing"

	"afflux/api"
	"afflux/disk"
	"afflux/wal"
)

// calls are those that the log's error refuses.
func calls() map[string]func(l *wal.Log) api.Errno {
	return map[string]func(l *wal.Log) api.Errno{
		"Append":      func(l *wal.Log) api.Errno { _, e := l.Append("a"); return e },
		"Append long": func(l *wal.Log) api.Errno { _, e := l.Append(strings.Repeat("x", longest+1)); return e },
		"Commit":      func(l *wal.Log) api.Errno { return l.Commit() },
		"Rotate":      func(l *wal.Log) api.Errno { return l.Rotate() },
		"Forget":      func(l *wal.Log) api.Errno { return l.Forget(most) },
		"Forget none": func(l *wal.Log) api.Errno { return l.Forget(-1) },
	}
}

// stays: the log's error is that, each further call answers it, and none does
// anything.
func stays(t *testing.T, d *disk.Disk, l *wal.Log, next, safe int, err api.Errno) {
	t.Helper()
	names, used, uses := fmt.Sprint(d.Names()), d.Used(), d.Uses()
	for range 2 {
		for what, call := range calls() {
			expect(t, what, call(l), err)
			expectLog(t, l, next, safe, err)
		}
		if n, e := l.Append("a"); n != 0 || e != err {
			t.Errorf("Append: %d, %d", n, e)
		}
	}
	if got := fmt.Sprint(d.Names()); got != names || d.Used() != used || d.Uses() != uses {
		t.Errorf("%s, %d bytes, %d uses; want %s, %d, %d", got, d.Used(), d.Uses(), names, used, uses)
	}
}

// P7.2: an error of the disk stays, whichever call met it.
func TestErrorStays(t *testing.T) {
	for what, call := range calls() {
		d := disk.New(someRoom)
		l := segmented(t, d)
		before := look(d)
		if what == "Append long" {
			appendRefused(t, d, l, strings.Repeat("x", longest+1), api.ErrLong)
			continue
		}
		d.Arm(0)
		expect(t, what, call(l), api.ErrOff)
		stays(t, d, l, 10, 9, api.ErrOff)
		d.Crash(slices.Repeat([]int{math.MaxInt}, api.MaxFiles)...)
		// The log's error isn't the disk's: it stays though the power is back.
		stays(t, d, l, 10, 9, api.ErrOff)
		opened(t, d, 0, recs(3, "00000003", "00000004", "00000005", "00000006", "00000007", "00000008", "00000009")...)
		if got := look(d); got != strings.Replace(before, "0 kept", "28 kept", 1) {
			t.Errorf("%s: %s; want %s", what, got, before)
		}
	}
}

// P7.2: the first record of a log, and that of a segment that ends.
func TestErrorOfAppend(t *testing.T) {
	d := disk.New(someRoom)
	l := opened(t, d, 7)
	d.Arm(0)
	if n, e := l.Append("a"); n != 0 || e != api.ErrOff {
		t.Errorf("Append: %d, %d", n, e)
	}
	stays(t, d, l, 7, 7, api.ErrOff)
	for n, safe := range []int{0, 2} { // it is the Sync that fails, or the Append
		d := disk.New(someRoom)
		l, _ := filled(t, d, 0)
		d.Arm(n)
		if n, e := l.Append("c"); n != 0 || e != api.ErrOff {
			t.Errorf("Append: %d, %d", n, e)
		}
		expectFiles(t, d, "log.00000000")
		stays(t, d, l, 2, safe, api.ErrOff)
	}
}

// P7.2: segments are deleted the lowest first, as far as the power goes.
func TestErrorOfForget(t *testing.T) {
	all := []string{"log.00000003", "log.00000005", "log.00000006", "log.00000009"}
	for n := range 4 { // the first use is the Sync
		d := disk.New(someRoom)
		l := segmented(t, d)
		d.Arm(n)
		expect(t, "Forget", l.Forget(9), api.ErrOff)
		expectFiles(t, d, all[max(n-1, 0):]...)
		safe := 10
		if n == 0 {
			safe = 9
		}
		stays(t, d, l, 10, safe, api.ErrOff)
	}
	d := disk.New(someRoom)
	l := segmented(t, d)
	d.Arm(4)
	expect(t, "Forget", l.Forget(9), api.OK)
	expectFiles(t, d, all[3:]...)
}

// P7.2: what asks nothing of the disk meets no error of it.
func TestNoErrorWithoutUse(t *testing.T) {
	d := disk.New(someRoom)
	l := segmented(t, d)
	expect(t, "Commit", l.Commit(), api.OK)
	d.Arm(0)
	expect(t, "Sync", d.Sync(), api.ErrOff)
	expect(t, "Commit", l.Commit(), api.OK)
	expect(t, "Rotate", l.Rotate(), api.OK)
	expect(t, "Forget", l.Forget(4), api.OK)
	expectLog(t, l, 10, 10, api.OK)
	if n, e := l.Append(strings.Repeat("x", longest+1)); n != 0 || e != api.ErrLong {
		t.Errorf("Append: %d, %d", n, e)
	}
	expectLog(t, l, 10, 10, api.OK)
	expect(t, "Put", d.Put("other", strings.Repeat("x", d.Free())), api.OK)
	if n, e := l.Append(""); n != 0 || e != api.ErrFull {
		t.Errorf("Append: %d, %d", n, e)
	}
	expectLog(t, l, 10, 10, api.OK)
	expect(t, "Put", d.Put("other", ""), api.OK)
	if n, e := l.Append(""); n != 0 || e != api.ErrOff {
		t.Errorf("Append: %d, %d", n, e)
	}
	stays(t, d, l, 10, 10, api.ErrOff)
}

// Of a log that Open didn't make, and of one whose disk others changed, nothing
// is promised but that no call panics.
func TestNoPanic(t *testing.T) {
	for range 3 {
		for _, call := range calls() {
			call(new(wal.Log))
		}
	}
	for what, spoil := range map[string]func(d *disk.Disk){
		"crashed": func(d *disk.Disk) { d.Crash() },
		"deleted": func(d *disk.Disk) {
			for _, name := range d.Names() {
				d.Delete(name)
			}
		},
		"laid":  func(d *disk.Disk) { d.Put("log.00000003", "junk"); d.Put("log.00000004", "junk") },
		"full":  func(d *disk.Disk) { d.Put("other", strings.Repeat("x", d.Free())) },
		"files": func(d *disk.Disk) { crowded(t, d, api.MaxFiles-len(d.Names())) },
		"great": func(d *disk.Disk) { d.Put("log.00000009", strings.Repeat("x", someRoom-1000)) },
	} {
		t.Run(what, func(t *testing.T) {
			for _, first := range calls() {
				d := disk.New(someRoom)
				l := segmented(t, d)
				spoil(d)
				first(l)
				for _, call := range calls() {
					call(l)
				}
			}
		})
	}
}
