package wal_test

import (
	"math"
	"slices"
	"strings"
	"testing"

	"afflux/api"
	"afflux/disk"
	"afflux/seal"
	"afflux/wal"
)

// The document's example.
func TestExample(t *testing.T) {
	d := disk.New(someRoom)
	l := opened(t, d, 0)
	appends(t, l, 0, "a", "b")
	expect(t, "Commit", l.Commit(), api.OK)
	expectLog(t, l, 2, 2, api.OK)
	appends(t, l, 2, "c")
	expectLog(t, l, 3, 2, api.OK)
	d.Crash()
	opened(t, d, 0, recs(0, "a", "b")...)
}

// P7.1: ErrArg, also of a disk that is off.
func TestOpenWrong(t *testing.T) {
	refusedAll := func(d *disk.Disk) {
		for _, name := range []string{"", "abcdefg", "A", "aB", "a1", "0", "log.", ".", "a b", "lög", "\x00", "a\x00", "`", "{", "\xff", strings.Repeat("a", 300)} {
			refused(t, d, name, 0, api.ErrArg)
		}
		for _, first := range []int{-1, math.MinInt, most + 1, math.MaxInt} {
			refused(t, d, "log", first, api.ErrArg)
		}
	}
	d := laid(t, "log.00000000", segment(0, "a")+"x")
	refusedAll(d)
	d.Arm(0)
	expect(t, "Sync", d.Sync(), api.ErrOff)
	refusedAll(d)
	refused(t, d, "log", 0, api.ErrOff)
	refused(t, d, "other", 0, api.ErrOff)
	for _, name := range []string{"log", ""} {
		if l, got, e := wal.Open(nil, name, 0); l != nil || got != nil || e != api.ErrArg {
			t.Errorf("Open of no disk: %v, %s, %d", l, brief(got), e)
		}
	}
}

// P7.1: names of 1 to 6 letters; each log has its own segments.
func TestOpenNames(t *testing.T) {
	d := disk.New(someRoom)
	names := []string{"a", "ab", "abcdef", "log", "z", "zyx"}
	for i, name := range names {
		l, _, e := wal.Open(d, name, i)
		expect(t, name, e, api.OK)
		appends(t, l, i, name, name)
		expect(t, name, l.Commit(), api.OK)
	}
	expectFiles(t, d, "a.00000000", "ab.00000001", "abcdef.00000002", "log.00000003", "z.00000004", "zyx.00000005")
	for i, name := range names {
		l, got, e := wal.Open(d, name, 77)
		if e != api.OK || !slices.Equal(got, recs(i, name, name)) || l.Next() != i+2 {
			t.Errorf("%q: %s, %d", name, brief(got), e)
		}
	}
}

// P7.1: without segments the next number is the first one, and nothing is made.
func TestOpenOfNothing(t *testing.T) {
	for _, first := range []int{0, 1, 7, 12345678, most - 1, most} {
		d := disk.New(0)
		d.Arm(0)
		l := opened(t, d, first)
		expectLog(t, l, first, first, api.OK)
		expectFiles(t, d)
		if d.Uses() != 0 {
			t.Errorf("%d uses", d.Uses())
		}
	}
}

// P7.1: with segments the first one's name tells the first number.
func TestOpenHeedsNoFirst(t *testing.T) {
	for _, at := range []int{0, 9, 1234, most - 2} {
		name := "log." + string(pad(at))
		for _, first := range []int{0, 8, 10, most} {
			d := laid(t, name, segment(at, "x", ""))
			l, got, e := wal.Open(d, "log", first)
			if e != api.OK || !slices.Equal(got, recs(at, "x", "")) {
				t.Fatalf("%d: %s, %d", at, brief(got), e)
			}
			expectLog(t, l, at+2, at+2, api.OK)
			d = laid(t, name, "")
			l, got, e = wal.Open(d, "log", first)
			if e != api.OK || got != nil {
				t.Fatalf("%d: %s, %d", at, brief(got), e)
			}
			expectLog(t, l, at, at, api.OK)
			appends(t, l, at, "y")
			expectFile(t, d, name, segment(at, "y"), 0)
		}
	}
}

// pad is a number's eight digits.
func pad(n int) []byte {
	b := []byte("00000000")
	for i := len(b) - 1; n > 0; i-- {
		b[i] += byte(n % 10)
		n /= 10
	}
	return b
}

// P7.1: files of other names are no segments: they are left as they are.
func TestOpenOthers(t *testing.T) {
	others := []string{
		"log", "log.", "log.0", "log.0000000", "log.000000000", "log.0000000a", "log.-0000001", "log.+0000001", "log. 0000000", "log.0x000001", "log.00000_01",
		"log.00000001x", "log..0000001", "log.00000001.", "log.０00001", "log00000000", "lo.00000000", "logs.00000000", "alog.00000000", "LOG.00000000", ".00000000", "log-00000000", "log.00000010.new",
	}
	var files []string
	for _, name := range others {
		files = append(files, name, "whatever")
	}
	d := laid(t, files...)
	l := opened(t, d, 5)
	appends(t, l, 5, "a")
	expect(t, "Rotate", l.Rotate(), api.OK)
	appends(t, l, 6, "b")
	expect(t, "Forget", l.Forget(most), api.OK)
	opened(t, d, 0, recs(6, "b")...)
	for _, name := range others {
		expectFile(t, d, name, "whatever", 8)
	}
	if n := len(d.Names()); n != len(others)+1 {
		t.Errorf("%d files: %q", n, d.Names())
	}
}

// P7.1: segments as they are told in the document, byte by byte.
func TestOpenOfBytes(t *testing.T) {
	framed := func(number byte, data string) string {
		s := "\x00\x00\x00" + string(rune(8+len(data))) + "\x00\x00\x00\x00\x00\x00\x00" + string(rune(number)) + data
		sum := seal.Of(s)
		for range 8 {
			s += string([]byte{byte(sum)})
			sum >>= 8
		}
		return s
	}
	d := laid(t, "log.00000007", framed(7, "seven")+framed(8, ""), "log.00000009", framed(9, "nine"))
	l := opened(t, d, 0, recs(7, "seven", "", "nine")...)
	appends(t, l, 10, "ten")
	expectFile(t, d, "log.00000009", framed(9, "nine")+framed(10, "ten"), len(framed(9, "nine")))
}

// spoilt are bytes that are no records behind those of the numbers 5 to 7.
func spoilt() map[string]string {
	whole := record(8, "eight")
	bare, _ := seal.Frame("\x00\x00\x00\x00\x00\x00\x08")
	none, _ := seal.Frame()
	backwards, _ := seal.Frame("\x08\x00\x00\x00\x00\x00\x00\x00", "eight")
	out := map[string]string{
		"a byte":           "\x00",
		"a great size":     "\xff\xff\xff\xff" + whole,
		"no sum":           whole[:len(whole)-8],
		"a frame less one": whole[:len(whole)-1],
		"a turned number":  whole[:11] + "\x09" + whole[12:],
		"a turned byte":    whole[:13] + "X" + whole[14:],
		"a turned sum":     whole[:len(whole)-1] + string([]byte{whole[len(whole)-1] ^ 1}),
		"noughts":          strings.Repeat("\x00", 100),
		"no number":        none,
		"seven bytes":      bare + whole,
		"lowest first":     backwards,
	}
	for what, number := range map[string]uint64{
		"one skipped": 9, "the same again": 7, "one back": 6, "the first again": 5, "nought": 0, "a great one": 8 + 1<<32, "below nought": 1 << 63, "beyond": 8 + 1<<63, "all ones": math.MaxUint64,
	} {
		out[what] = record(number, "eight") + whole
	}
	return out
}

// P7.1: in the last segment what stands behind is cut off, and the rest kept.
func TestOpenCuts(t *testing.T) {
	for what, bytes := range spoilt() {
		t.Run(what, func(t *testing.T) {
			whole := segment(5, "five", "", "seven")
			for _, kept := range []int{0, 3, len(whole), len(whole) + len(bytes)} {
				d := laid(t, "log.00000003", segment(3, "three", "four"), "log.00000005", (whole + bytes)[:kept], "log.00000008x", "")
				expect(t, "Append", d.Append("log.00000005", (whole + bytes)[kept:]), api.OK)
				l := opened(t, d, 0, recs(3, "three", "four", "five", "", "seven")...)
				expectFile(t, d, "log.00000005", whole, len(whole))
				appends(t, l, 8, "8")
				expectFile(t, d, "log.00000005", whole+record(8, "8"), len(whole))
				expect(t, "Commit", l.Commit(), api.OK)
				opened(t, d, 0, recs(3, "three", "four", "five", "", "seven", "8")...)
			}
		})
	}
}

// P7.1: the first record has the number of the segment's name.
func TestOpenCutsAll(t *testing.T) {
	for what, bytes := range map[string]string{
		"no record": "abc", "one below": segment(4, "a", "b"), "one above": segment(6, "a"), "nought": segment(0, "a"), "a great one": record(5+1<<32, "a"),
		"no number": strings.Repeat("\x00\x00\x00\x00"+strings.Repeat("\x00", 8), 3), "nothing": "",
	} {
		for _, ahead := range []bool{true, false} {
			d := laid(t, "log.00000005", bytes)
			var want []api.Rec
			if ahead {
				expect(t, what, d.Put("log.00000003", segment(3, "three", "four")), api.OK)
				want = recs(3, "three", "four")
			}
			l, got, e := wal.Open(d, "log", 77)
			if e != api.OK || !slices.Equal(got, want) {
				t.Fatalf("%s: %s, %d", what, brief(got), e)
			}
			expectLog(t, l, 5, 5, api.OK)
			expectFile(t, d, "log.00000005", "", 0)
			appends(t, l, 5, "five")
			expectFile(t, d, "log.00000005", segment(5, "five"), 0)
		}
	}
}

// P7.1: what is told is kept, whether it was committed or not.
func TestOpenSyncs(t *testing.T) {
	d := disk.New(someRoom)
	appends(t, opened(t, d, 0), 0, "a", "b")
	if d.Kept("log.00000000") != 0 {
		t.Error("the group was committed")
	}
	opened(t, d, 0, recs(0, "a", "b")...)
	d.Crash()
	opened(t, d, 0, recs(0, "a", "b")...)
}

// P7.1: in another segment than the last one there must be nothing behind.
func TestOpenCorruptBehind(t *testing.T) {
	for what, bytes := range spoilt() {
		t.Run(what, func(t *testing.T) {
			whole := segment(5, "five", "", "seven")
			last := segment(8, "eight") + "some more"
			opened(t, laid(t, "log.00000005", whole, "log.00000008", last), 0, recs(5, "five", "", "seven", "eight")...)
			refused(t, laid(t, "log.00000005", whole+bytes, "log.00000008", last), "log", 0, api.ErrCorrupt)
			refused(t, laid(t, "log.00000005", whole+bytes, "log.00000008", ""), "log", 0, api.ErrCorrupt)
			refused(t, laid(t, "log.00000005", whole+bytes, "log.00000009", segment(9, "nine")), "log", 0, api.ErrCorrupt)
			refused(t, laid(t, "log.00000005", bytes, "log.00000006", segment(6, "six")), "log", 0, api.ErrCorrupt)
			refused(t, laid(t, "log.00000004", segment(4, "4"), "log.00000005", whole+bytes, "log.00000008", last), "log", 0, api.ErrCorrupt)
		})
	}
}

// P7.1: the next segment's number is one above the last record's.
func TestOpenCorruptNumbers(t *testing.T) {
	for _, next := range []int{0, 3, 6, 7, 9, 10, 18, 80, most} {
		for _, last := range []string{"", "junk", segment(next, "a")} {
			d := laid(t, "log.00000005", segment(5, "five", "six", "seven"), "log."+string(pad(next)), last)
			refused(t, d, "log", 0, api.ErrCorrupt)
		}
	}
	// None can follow one without records, whose own number it would have to have.
	for _, next := range []string{"log.00000006", "log.00000007", "log.99999999"} {
		refused(t, laid(t, "log.00000005", "", next, ""), "log", 0, api.ErrCorrupt)
		refused(t, laid(t, "log.00000004", segment(4, "four"), "log.00000005", "", next, segment(6, "six")), "log", 0, api.ErrCorrupt)
	}
}

// P7.1: what a log may not append is a record all the same where it is one.
func TestOpenOfGreatRecords(t *testing.T) {
	data := strings.Repeat("x", seal.MaxBody-8)
	d := laid(t, "log.00000001", segment(1, data, "y", data))
	opened(t, d, 0, recs(1, data, "y", data)...)
	d = laid(t, "log.99999998", segment(most-1, "a", "b"))
	l := opened(t, d, 0, recs(most-1, "a", "b")...)
	expect(t, "Rotate", l.Rotate(), api.OK)
	appendRefused(t, d, l, "c", api.ErrLong)
}

// P7.1: many segments, each of many records.
func TestOpenOfMany(t *testing.T) {
	var want []api.Rec
	d := disk.New(someRoom)
	for len(d.Names()) < 40 {
		var l []string
		for i := range len(d.Names())%5*40 + 1 {
			l = append(l, strings.Repeat("z", i))
		}
		first := 99980 + len(want)
		expect(t, "Put", d.Put("log."+string(pad(first)), segment(first, l...)), api.OK)
		want = append(want, recs(first, l...)...)
	}
	opened(t, d, 0, want...)
}

// P7.1: an error of the disk is answered, whatever use it is of.
func TestOpenOfArmed(t *testing.T) {
	whole := segment(5, "five", "six")
	for _, c := range []struct {
		bytes string
		uses  int
	}{{whole, 1}, {"", 1}, {whole + "junk", 2}, {"junk", 2}} {
		for n := range c.uses {
			d := laid(t, "log.00000005", c.bytes)
			d.Arm(n)
			if l, got, e := wal.Open(d, "log", 0); l != nil || got != nil || e != api.ErrOff {
				t.Errorf("armed with %d: %v, %s, %d", n, l, brief(got), e)
			}
			d.Crash()
			l, got, e := wal.Open(d, "log", 0)
			if e != api.OK || len(got) != l.Next()-5 || strings.HasPrefix(c.bytes, whole) != (len(got) == 2) {
				t.Errorf("behind a crash: %s, %d", brief(got), e)
			}
		}
		d := laid(t, "log.00000005", c.bytes)
		d.Arm(c.uses)
		if _, _, e := wal.Open(d, "log", 0); e != api.OK {
			t.Errorf("armed with %d: %d", c.uses, e)
		}
	}
	d := laid(t, "log.00000005", whole+"junk", "log.00000007", "")
	d.Arm(0)
	refused(t, d, "log", 0, api.ErrCorrupt)
}

// What is told is new memory.
func TestOpenIsNew(t *testing.T) {
	d := laid(t, "log.00000005", segment(5, "five", "six"))
	_, got, _ := wal.Open(d, "log", 0)
	got[0], got[1] = api.Rec{Seq: 1, Data: "spoilt"}, api.Rec{}
	opened(t, d, 0, recs(5, "five", "six")...)
}
