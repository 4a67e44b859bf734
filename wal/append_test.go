package wal_test

import (
	"math"
	"slices"
	"strings"
	"testing"

	"afflux/api"
	"afflux/disk"
	"afflux/wal"
)

// P7.2: of a nil log.
func TestNilLog(t *testing.T) {
	var l *wal.Log
	for _, data := range []string{"", "a", strings.Repeat("x", longest+1)} {
		if n, e := l.Append(data); n != 0 || e != api.ErrArg {
			t.Errorf("Append: %d, %d", n, e)
		}
	}
	expect(t, "Commit", l.Commit(), api.ErrArg)
	expect(t, "Rotate", l.Rotate(), api.ErrArg)
	expect(t, "Forget", l.Forget(0), api.ErrArg)
	expectLog(t, l, 0, 0, api.ErrArg)
}

// P7.2: records stand in the last segment, one behind the other, as framed.
func TestAppend(t *testing.T) {
	for _, first := range []int{0, 5, 255, 256, 65536 * 256, most - 5} {
		d := disk.New(someRoom)
		l := opened(t, d, first)
		data := []string{"a", "", "\x00\xff", "it's", strings.Repeat("x", 300)}
		appends(t, l, first, data[:1]...)
		file := "log." + string(pad(first))
		expectFiles(t, d, file)
		expectFile(t, d, file, segment(first, data[0]), 0)
		expectLog(t, l, first+1, first, api.OK)
		appends(t, l, first+1, data[1:]...)
		expectFile(t, d, file, segment(first, data...), 0)
		expectLog(t, l, first+5, first, api.OK)
		if d.Uses() != 5 {
			t.Errorf("%d uses", d.Uses())
		}
		opened(t, d, 0, recs(first, data...)...)
	}
}

// P7.2: behind an Open records go on where the last ones stand.
func TestAppendBehindOpen(t *testing.T) {
	d := laid(t, "log.00000003", segment(3, "a"), "log.00000004", segment(4, "b", "c"))
	l := opened(t, d, 0, recs(3, "a", "b", "c")...)
	appends(t, l, 6, "d", "e")
	expectFiles(t, d, "log.00000003", "log.00000004")
	expectFile(t, d, "log.00000004", segment(4, "b", "c", "d", "e"), len(segment(4, "b", "c")))
	expectLog(t, l, 8, 6, api.OK)
	opened(t, d, 0, recs(3, "a", "b", "c", "d", "e")...)
}

// P7.2: at most 65000 bytes.
func TestAppendLong(t *testing.T) {
	d := disk.New(someRoom)
	l := opened(t, d, 0)
	full := strings.Repeat("x", longest)
	appendRefused(t, d, l, full+"x", api.ErrLong)
	appends(t, l, 0, full, "a", full)
	appendRefused(t, d, l, full+"x", api.ErrLong)
	appendRefused(t, d, l, strings.Repeat("x", 65536), api.ErrLong)
	appendRefused(t, d, l, strings.Repeat("x", someRoom*4), api.ErrLong)
	opened(t, d, 0, recs(0, full, "a", full)...)
	// It is told ahead of the room that there isn't.
	small := disk.New(10)
	l = opened(t, small, 0)
	appendRefused(t, small, l, full+"x", api.ErrLong)
	appendRefused(t, small, l, full, api.ErrFull)
}

// P7.2: the last number is 99999998.
func TestAppendLast(t *testing.T) {
	d := disk.New(someRoom)
	l := opened(t, d, most)
	for range 2 {
		appendRefused(t, d, l, "", api.ErrLong)
	}
	l = opened(t, d, most-2)
	appends(t, l, most-2, "a", "b")
	appendRefused(t, d, l, "", api.ErrLong)
	expect(t, "Commit", l.Commit(), api.OK)
	expectLog(t, l, most, most, api.OK)
	expect(t, "Rotate", l.Rotate(), api.OK)
	appendRefused(t, d, l, "", api.ErrLong)
	expect(t, "Forget", l.Forget(most), api.OK)
	l = opened(t, d, 0, recs(most-2, "a", "b")...)
	appendRefused(t, d, l, "", api.ErrLong)
	// That is told ahead of the room that there isn't, too.
	d = laid(t, "log.99999998", segment(most-1, "a"))
	expect(t, "Put", d.Put("other", strings.Repeat("x", d.Free())), api.OK)
	appendRefused(t, d, opened(t, d, 0, recs(most-1, "a")...), "", api.ErrLong)
}

// P7.2: there must be room for the frame; else it isn't appended, but others
// may be.
func TestAppendFull(t *testing.T) {
	room := 3*over + 5
	d := disk.New(room)
	l := opened(t, d, 0)
	appendRefused(t, d, l, strings.Repeat("x", room-over+1), api.ErrFull)
	expectFiles(t, d)
	appends(t, l, 0, "123", "")
	appendRefused(t, d, l, "abc", api.ErrFull)
	appendRefused(t, d, l, strings.Repeat("x", longest), api.ErrFull)
	appends(t, l, 2, "ab")
	for _, data := range []string{"", "x"} {
		appendRefused(t, d, l, data, api.ErrFull)
	}
	expect(t, "Commit", l.Commit(), api.OK)
	expectLog(t, l, 3, 3, api.OK)
	expect(t, "Rotate", l.Rotate(), api.OK)
	appendRefused(t, d, l, "", api.ErrFull)
	opened(t, d, 0, recs(0, "123", "", "ab")...)
	if d.Free() != 0 {
		t.Errorf("%d bytes free", d.Free())
	}
	expect(t, "Put", d.Put("other", ""), api.OK)
	whole := disk.New(over + 5)
	appends(t, opened(t, whole, 0), 0, "12345")
	less := disk.New(over + 4)
	l = opened(t, less, 0)
	appendRefused(t, less, l, "12345", api.ErrFull)
	appends(t, l, 0, "1234")
}

// P7.2: room that comes again is used.
func TestAppendFullForAWhile(t *testing.T) {
	d := disk.New(4 * over)
	l := opened(t, d, 0)
	appends(t, l, 0, strings.Repeat("a", over))
	expect(t, "Rotate", l.Rotate(), api.OK)
	appends(t, l, 1, strings.Repeat("b", over))
	appendRefused(t, d, l, "", api.ErrFull)
	expect(t, "Forget", l.Forget(1), api.OK)
	appends(t, l, 2, strings.Repeat("c", over))
	appendRefused(t, d, l, "", api.ErrFull)
	opened(t, d, 0, recs(1, strings.Repeat("b", over), strings.Repeat("c", over))...)
}

// P7.2: with MaxFiles files there is no room for the first record of a segment.
func TestAppendManyFiles(t *testing.T) {
	d := crowded(t, disk.New(someRoom), api.MaxFiles)
	appendRefused(t, d, opened(t, d, 0), "a", api.ErrFull)

	d = crowded(t, disk.New(someRoom), api.MaxFiles-1)
	l := opened(t, d, 0)
	appends(t, l, 0, "a", "b")
	expect(t, "Rotate", l.Rotate(), api.OK)
	appendRefused(t, d, l, "c", api.ErrFull)
	expect(t, "Delete", d.Delete("other7"), api.OK)
	appends(t, l, 2, "c", "d")
	opened(t, d, 0, recs(0, "a", "b", "c", "d")...)

	// As the words are, also where that segment's file is there already.
	d = crowded(t, laid(t, "log.00000007", ""), api.MaxFiles-1)
	l = opened(t, d, 0)
	appendRefused(t, d, l, "a", api.ErrFull)
	expect(t, "Delete", d.Delete("other7"), api.OK)
	appends(t, l, 7, "a")
}

// filled is a log of one segment that lacks so many bytes of SegmentSize, its
// group having these data.
func filled(t *testing.T, d *disk.Disk, lacks int) (*wal.Log, []string) {
	t.Helper()
	l := opened(t, d, 0)
	data := []string{"a", strings.Repeat("b", wal.SegmentSize-lacks-2*over-1)}
	appends(t, l, 0, data...)
	expectFile(t, d, "log.00000000", segment(0, data...), 0)
	return l, data
}

// P7.2: a segment that has SegmentSize bytes or more has no further record; what
// it has is committed ahead of the next one's.
func TestAppendTurns(t *testing.T) {
	if wal.SegmentSize != 16384 {
		t.Error(wal.SegmentSize)
	}
	for lacks := -2; lacks <= 2; lacks++ {
		d := disk.New(someRoom)
		l, data := filled(t, d, lacks)
		size := len(segment(0, data...))
		if lacks > 0 {
			appends(t, l, 2, "c")
			expectLog(t, l, 3, 0, api.OK)
			expectFiles(t, d, "log.00000000")
			expectFile(t, d, "log.00000000", segment(0, data[0], data[1], "c"), 0)
			continue
		}
		appends(t, l, 2, "c", "d")
		expectLog(t, l, 4, 2, api.OK)
		expectFiles(t, d, "log.00000000", "log.00000002")
		expectFile(t, d, "log.00000000", segment(0, data...), size)
		expectFile(t, d, "log.00000002", segment(2, "c", "d"), 0)
		opened(t, d, 0, recs(0, data[0], data[1], "c", "d")...)
	}
}

// P7.2: behind an Open, too; and what is committed isn't synced once more.
func TestAppendTurnsBehindOpen(t *testing.T) {
	for lacks := -1; lacks <= 1; lacks++ {
		d := disk.New(someRoom)
		_, data := filled(t, d, lacks)
		l := opened(t, d, 0, recs(0, data...)...)
		uses := d.Uses()
		appends(t, l, 2, "c")
		if d.Uses() != uses+1 {
			t.Errorf("%d more uses", d.Uses()-uses)
		}
		if turned := slices.Contains(d.Names(), "log.00000002"); turned != (lacks <= 0) {
			t.Errorf("%d bytes less: %q", lacks, d.Names())
		}
	}
}

// P7.2: many segments by and by, told in order.
func TestAppendMany(t *testing.T) {
	d := disk.New(someRoom)
	l := opened(t, d, 1000)
	var want []api.Rec
	for i := range 600 {
		data := strings.Repeat(string(rune('a'+i%26)), i*7%3000)
		appends(t, l, 1000+i, data)
		want = append(want, api.Rec{Seq: 1000 + i, Data: data})
	}
	for _, name := range d.Names() {
		s, _ := d.Read(name)
		if len(s) >= wal.SegmentSize+3000+over || len(s) < wal.SegmentSize && name != d.Names()[len(d.Names())-1] {
			t.Errorf("%q: %d bytes", name, len(s))
		}
	}
	if n := len(d.Names()); n < 40 {
		t.Errorf("%d segments", n)
	}
	opened(t, d, 0, want...)
}

// P7.2: without room for the record the group isn't committed.
func TestAppendTurnsFull(t *testing.T) {
	d := disk.New(wal.SegmentSize + over)
	l, data := filled(t, d, 0)
	appendRefused(t, d, l, "c", api.ErrFull)
	appends(t, l, 2, "")
	expectLog(t, l, 3, 2, api.OK)
	appendRefused(t, d, l, "", api.ErrFull)
	opened(t, d, 0, recs(0, data[0], data[1], "")...)

	d = crowded(t, disk.New(someRoom), api.MaxFiles-1)
	l, _ = filled(t, d, 0)
	appendRefused(t, d, l, "c", api.ErrFull)
	d = crowded(t, disk.New(someRoom), api.MaxFiles-1)
	l, _ = filled(t, d, 1)
	appends(t, l, 2, "c")
	appendRefused(t, d, l, "d", api.ErrFull)
}

// P7.2: the last segment is synced, and only if there is a group.
func TestCommit(t *testing.T) {
	d := disk.New(someRoom)
	l := opened(t, d, 4)
	expect(t, "Commit", l.Commit(), api.OK)
	expectFiles(t, d)
	appends(t, l, 4, "a", "b")
	uses := d.Uses()
	for range 3 {
		expect(t, "Commit", l.Commit(), api.OK)
		expectLog(t, l, 6, 6, api.OK)
	}
	expectFile(t, d, "log.00000004", segment(4, "a", "b"), len(segment(4, "a", "b")))
	if d.Uses() != uses+1 {
		t.Errorf("%d more uses", d.Uses()-uses)
	}
	appends(t, l, 6, "c")
	expectLog(t, l, 7, 6, api.OK)
	expectFile(t, d, "log.00000004", segment(4, "a", "b", "c"), len(segment(4, "a", "b")))
	expect(t, "Commit", l.Commit(), api.OK)
	expectLog(t, l, 7, 7, api.OK)
	d.Crash()
	opened(t, d, 0, recs(4, "a", "b", "c")...)
	// Of several segments the others are synced already.
	d = disk.New(someRoom)
	l, data := filled(t, d, 0)
	appends(t, l, 2, "c")
	expect(t, "Commit", l.Commit(), api.OK)
	expectLog(t, l, 3, 3, api.OK)
	d.Crash()
	opened(t, d, 0, recs(0, data[0], data[1], "c")...)
}

// P7.2: the next record goes to a new segment, if the last one has any.
func TestRotate(t *testing.T) {
	d := disk.New(someRoom)
	l := opened(t, d, 4)
	for range 2 {
		expect(t, "Rotate of none", l.Rotate(), api.OK)
	}
	appends(t, l, 4, "a", "b")
	expectFiles(t, d, "log.00000004")
	for range 3 {
		expect(t, "Rotate", l.Rotate(), api.OK)
		expectLog(t, l, 6, 6, api.OK)
		expectFiles(t, d, "log.00000004")
	}
	appends(t, l, 6, "c", "d")
	expectLog(t, l, 8, 6, api.OK)
	expectFile(t, d, "log.00000004", segment(4, "a", "b"), len(segment(4, "a", "b")))
	expectFile(t, d, "log.00000006", segment(6, "c", "d"), 0)
	expect(t, "Rotate", l.Rotate(), api.OK)
	expectLog(t, l, 8, 8, api.OK)
	expectFile(t, d, "log.00000006", segment(6, "c", "d"), len(segment(6, "c", "d")))
	// That it was rotated is forgotten by an Open.
	l = opened(t, d, 0, recs(4, "a", "b", "c", "d")...)
	appends(t, l, 8, "e")
	expectFiles(t, d, "log.00000004", "log.00000006")
	l = opened(t, d, 0, recs(4, "a", "b", "c", "d", "e")...)
	expect(t, "Rotate", l.Rotate(), api.OK)
	appends(t, l, 9, "f")
	expectFiles(t, d, "log.00000004", "log.00000006", "log.00000009")
	opened(t, d, 0, recs(4, "a", "b", "c", "d", "e", "f")...)
}

// P7.2: a last segment that has no record is gone on with.
func TestRotateOfEmpty(t *testing.T) {
	d := laid(t, "log.00000004", segment(4, "a"), "log.00000005", "junk")
	l, got, e := wal.Open(d, "log", 0)
	if e != api.OK || !slices.Equal(got, recs(4, "a")) {
		t.Fatalf("Open: %s, %d", brief(got), e)
	}
	expect(t, "Rotate", l.Rotate(), api.OK)
	expect(t, "Forget", l.Forget(math.MaxInt), api.OK)
	expectFiles(t, d, "log.00000005")
	appends(t, l, 5, "b")
	expectFiles(t, d, "log.00000005")
	opened(t, d, 0, recs(5, "b")...)
}

// segmented is a log of the segments 3 to 4, 5, 6 to 8 and 9, and a group in the
// last one.
func segmented(t *testing.T, d *disk.Disk) *wal.Log {
	t.Helper()
	l := opened(t, d, 3)
	for _, last := range []int{4, 5, 8} {
		for n := l.Next(); n <= last; n++ {
			appends(t, l, n, string(pad(n)))
		}
		expect(t, "Rotate", l.Rotate(), api.OK)
	}
	appends(t, l, 9, string(pad(9)))
	return l
}

// P7.2: all segments but the last one whose records are all below.
func TestForget(t *testing.T) {
	all := []string{"log.00000003", "log.00000005", "log.00000006", "log.00000009"}
	for _, c := range []struct{ below, gone int }{
		{math.MinInt, 0}, {-1, 0}, {0, 0}, {3, 0}, {4, 0}, {5, 1}, {6, 2}, {7, 2}, {8, 2}, {9, 3}, {10, 3}, {11, 3}, {most, 3}, {math.MaxInt, 3},
	} {
		d := disk.New(someRoom)
		l := segmented(t, d)
		uses := d.Uses()
		for range 2 {
			expect(t, "Forget", l.Forget(c.below), api.OK)
			expectFiles(t, d, all[c.gone:]...)
			expectLog(t, l, 10, 10, api.OK)
		}
		expectFile(t, d, "log.00000009", segment(9, "00000009"), over+8)
		if d.Uses() != uses+1+c.gone {
			t.Errorf("below %d: %d more uses", c.below, d.Uses()-uses)
		}
		appends(t, l, 10, "00000010")
		var want []string
		first := []int{3, 5, 6, 9}[c.gone]
		for n := first; n <= 10; n++ {
			want = append(want, string(pad(n)))
		}
		opened(t, d, 0, recs(first, want...)...)
	}
}

// P7.2: a log that was rotated has still its last segment: by it the next
// number is told behind an Open.
func TestForgetRotated(t *testing.T) {
	d := disk.New(someRoom)
	l := segmented(t, d)
	expect(t, "Rotate", l.Rotate(), api.OK)
	expect(t, "Forget", l.Forget(10), api.OK)
	expectFiles(t, d, "log.00000009")
	opened(t, d, 0, recs(9, "00000009")...)
	appends(t, l, 10, "10")
	expect(t, "Forget", l.Forget(9), api.OK)
	expectFiles(t, d, "log.00000009", "log.00000010")
	expect(t, "Forget", l.Forget(10), api.OK)
	expectFiles(t, d, "log.00000010")
	opened(t, d, 0, recs(10, "10")...)
}

// P7.2: of no segment, and of one.
func TestForgetOfFew(t *testing.T) {
	for _, below := range []int{-1, 0, 1, 2, most, math.MaxInt} {
		d := disk.New(someRoom)
		l := opened(t, d, 0)
		expect(t, "Forget", l.Forget(below), api.OK)
		expectFiles(t, d)
		appends(t, l, 0, "a")
		expect(t, "Forget", l.Forget(below), api.OK)
		expectLog(t, l, 1, 1, api.OK)
		expectFile(t, d, "log.00000000", segment(0, "a"), over+1)
	}
}

// P7.2: other files stay.
func TestForgetOthers(t *testing.T) {
	d := laid(t, "logs.00000003", "a", "log.0000000", "b", "mark", "c", "lo.00000003", "d")
	l := segmented(t, d)
	expect(t, "Forget", l.Forget(most), api.OK)
	expectFiles(t, d, "lo.00000003", "log.0000000", "log.00000009", "logs.00000003", "mark")
}
