package wal_test

import (
	"fmt"
	"math/rand"
	"slices"
	"strings"
	"testing"

	"afflux/api"
	"afflux/disk"
	"afflux/wal"
)

// A life is a log, and all that was done with it.
type life struct {
	disk   *disk.Disk
	log    *wal.Log
	first  int
	data   []string // of all records, the first one being that of the number first
	safe   int
	forget int // all records from this number on, at least, aren't forgotten
}

// some is a record's data: mostly small ones, sometimes such that a segment ends.
func some(r *rand.Rand, number int) string {
	size := r.Intn(40)
	if r.Intn(4) == 0 {
		size = r.Intn(wal.SegmentSize)
	}
	return fmt.Sprint(number, " ") + strings.Repeat(string(rune('a'+r.Intn(26))), size)
}

// act does one thing more, as r picks it, and answers its error.
func (x *life) act(r *rand.Rand) api.Errno {
	var e api.Errno
	switch r.Intn(9) {
	default:
		data := some(r, x.log.Next())
		var n int
		n, e = x.log.Append(data)
		if e == api.OK {
			x.data = append(x.data[:n-x.first], data)
		}
	case 0, 1:
		e = x.log.Commit()
	case 2:
		e = x.log.Rotate()
	case 3:
		below := x.first + r.Intn(len(x.data)+2)
		x.forget = max(x.forget, below)
		e = x.log.Forget(below)
	}
	x.safe = x.log.Safe()
	return e
}

// live does so many things on a disk that is armed (or not, below 0), till the
// power goes off.
func live(t *testing.T, seed int64, things, armed int) *life {
	t.Helper()
	r := rand.New(rand.NewSource(seed))
	x := &life{disk: disk.New(someRoom), first: r.Intn(20)}
	x.log = opened(t, x.disk, x.first)
	x.safe, x.forget = x.first, x.first
	if armed >= 0 {
		x.disk.Arm(armed)
	}
	for range things {
		switch e := x.act(r); e {
		case api.OK:
		case api.ErrOff:
			return x
		default:
			t.Fatalf("%d", e)
		}
	}
	return x
}

// left is the number of the first record that there is, as the names of the
// segments tell it.
func (x *life) left() int {
	names := x.disk.Names("log.")
	if len(names) == 0 {
		return x.first
	}
	first := 0
	for _, c := range names[0][len("log."):] {
		first = first*10 + int(c-'0')
	}
	return first
}

// expected is the records that there must be, if a crash keeps so many bytes
// more: all that were committed and aren't forgotten, and of the group those
// that are kept whole.
func (x *life) expected(t *testing.T, keep int) []api.Rec {
	t.Helper()
	if first := x.left(); first > x.forget {
		t.Errorf("%d is the first record; %d was not forgotten", first, x.forget)
	}
	end := x.safe
	for ; end-x.first < len(x.data); end++ {
		keep -= over + len(x.data[end-x.first])
		if keep < 0 {
			break
		}
	}
	first := x.left()
	if first > end {
		t.Fatalf("from %d to %d", first, end)
	}
	return recs(first, x.data[first-x.first:end-x.first]...)
}

// crash keeps so many bytes more of each file.
func (x *life) crash(keep int) {
	x.disk.Crash(slices.Repeat([]int{keep}, api.MaxFiles)...)
}

// reopen opens the log behind a crash; the power goes off within that, too.
func (x *life) reopen(t *testing.T, want []api.Rec) *wal.Log {
	t.Helper()
	for n := range 3 {
		x.disk.Arm(n)
		l, got, e := wal.Open(x.disk, "log", x.first)
		if e == api.OK && slices.Equal(got, want) {
			break
		}
		if e != api.ErrOff || l != nil || got != nil {
			t.Fatalf("armed with %d: %s, %d; want %s", n, brief(got), e, brief(want))
		}
		x.disk.Crash()
	}
	x.disk.Crash()
	l, got, e := wal.Open(x.disk, "log", x.first)
	if e != api.OK || !slices.Equal(got, want) {
		t.Fatalf("Open: %s, %d; want %s", brief(got), e, brief(want))
	}
	return l
}

// P7.3: behind a crash at any use, and an Open.
func TestCrash(t *testing.T) {
	r := rand.New(rand.NewSource(7))
	for seed := range int64(12) {
		whole := live(t, seed, 40, -1)
		for n := range whole.disk.Uses() + 1 {
			for _, keep := range []int{0, over - 1, over, over + 25, someRoom, r.Intn(100), r.Intn(wal.SegmentSize)} {
				x := live(t, seed, 40, n)
				want := x.expected(t, keep)
				x.crash(keep)
				l := x.reopen(t, want)
				next := x.left() + len(want)
				expectLog(t, l, next, next, api.OK)
				appends(t, l, next, "behind", "the crash")
				expect(t, "Commit", l.Commit(), api.OK)
				x.crash(0)
				x.reopen(t, append(want, recs(next, "behind", "the crash")...))
			}
		}
	}
}

// P7.3: crash behind crash, the log going on between.
func TestCrashes(t *testing.T) {
	for seed := range int64(40) {
		r := rand.New(rand.NewSource(100 + seed))
		x := live(t, seed, 5, -1)
		for range 12 {
			keep := []int{0, someRoom, r.Intn(200)}[r.Intn(3)]
			want := x.expected(t, keep)
			x.crash(keep)
			x.log = x.reopen(t, want)
			x.safe = x.log.Next()
			x.data = x.data[:x.safe-x.first]
			x.disk.Arm(r.Intn(30))
			for range 12 {
				if e := x.act(r); e == api.ErrOff {
					break
				} else if e != api.OK {
					t.Fatalf("%d", e)
				}
			}
		}
	}
}
