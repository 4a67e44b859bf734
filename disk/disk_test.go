package disk_test

import (
	"fmt"
	"math"
	"slices"
	"strconv"
	"strings"
	"testing"

	"afflux/api"
	"afflux/disk"
)

const (
	file     = api.MaxFile
	files    = api.MaxFiles
	someRoom = file + 1000
	someUses = 4
)

// some is a disk of a few files, whose bytes are kept in part.
func some(t *testing.T) *disk.Disk {
	t.Helper()
	d := disk.New(someRoom)
	for _, e := range []api.Errno{
		d.Append("b", string(make([]byte, file-1000)), "bb"), d.Append("a", "kept"), d.Sync("a"), d.Append("a", " and not"),
	} {
		expect(t, "some", e, api.OK)
	}
	return d
}

// keepAll is what a crash is told that spares every byte.
func keepAll() []int {
	return slices.Repeat([]int{math.MaxInt}, files)
}

func expect(t *testing.T, what string, got, want api.Errno) {
	t.Helper()
	if got != want {
		t.Errorf("%s: %d; want %d", what, got, want)
	}
}

// expectFile: there is a file of these bytes, of which so many are kept.
func expectFile(t *testing.T, d *disk.Disk, name, bytes string, kept int) {
	t.Helper()
	s, e := d.Read(name)
	if s != bytes || e != api.OK || d.Kept(name) != kept || !slices.Contains(d.Names(), name) {
		t.Errorf("%q: %.40q (%d bytes), %d, %d kept; want %.40q, %d kept", name, s, len(s), e, d.Kept(name), bytes, kept)
	}
}

// expectNone: there is no file of that name.
func expectNone(t *testing.T, d *disk.Disk, name string) {
	t.Helper()
	s, e := d.Read(name)
	if s != "" || e != api.ErrNone || d.Kept(name) != 0 || slices.Contains(d.Names(), name) {
		t.Errorf("%q: %.40q, %d, %d kept; want none", name, s, e, d.Kept(name))
	}
}

// expectRoom: so many bytes, those of all files, are used.
func expectRoom(t *testing.T, d *disk.Disk, used, free int) {
	t.Helper()
	if d.Used() != used || d.Free() != free {
		t.Errorf("%d used, %d free; want %d, %d", d.Used(), d.Free(), used, free)
	}
}

// look is all that lies on a disk whose power is on, but how many bytes are
// kept, which a crash changes.
func look(d *disk.Disk) string {
	var out strings.Builder
	for _, name := range d.Names() {
		s, e := d.Read(name)
		fmt.Fprintf(&out, "%q: %d bytes, %x, %d; ", name, len(s), strings.Trim(s, "\x00"), e)
	}
	fmt.Fprintf(&out, "%d used, %d free", d.Used(), d.Free())
	return out.String()
}

func wrongNames() []string {
	return []string{"", strings.Repeat("x", 21), strings.Repeat("x", 22), strings.Repeat("\x00", 300)}
}

// The document's example.
func TestExample(t *testing.T) {
	d := disk.New(100)
	expect(t, "Append", d.Append("a", "xy"), api.OK)
	expect(t, "Sync", d.Sync("a"), api.OK)
	expect(t, "Append", d.Append("a", "zw"), api.OK)
	expectFile(t, d, "a", "xyzw", 2)
	d.Crash(1)
	expectFile(t, d, "a", "xyz", 3)
}

// P6.2: names are of 1 to 20 bytes, of whatever bytes.
func TestNames(t *testing.T) {
	for _, name := range []string{"a", "\x00", "\xff\xfe", " ", "/", "s.00000001", strings.Repeat("x", 20), strings.Repeat("\x00", 20)} {
		d := disk.New(100)
		expect(t, "Append", d.Append(name, "xy"), api.OK)
		expectFile(t, d, name, "xy", 0)
		expect(t, "Sync", d.Sync(name), api.OK)
		expect(t, "Cut", d.Cut(name, 1), api.OK)
		expectFile(t, d, name, "x", 1)
		expect(t, "Rename", d.Rename(name, "y"), api.OK)
		expect(t, "Rename", d.Rename("y", name), api.OK)
		expectFile(t, d, name, "x", 1)
		expect(t, "Delete", d.Delete(name), api.OK)
		expect(t, "Put", d.Put(name, "z"), api.OK)
		expectFile(t, d, name, "z", 1)
	}
}

// P6.2, P6.3: a name that may not be is told ahead of what else is wrong.
func TestWrongNames(t *testing.T) {
	long := strings.Repeat("x", file+1)
	for _, name := range wrongNames() {
		d := some(t)
		before := look(d)
		for what, e := range map[string]api.Errno{
			"Append": d.Append(name, "x"), "Append of nothing": d.Append(name), "Append of too much": d.Append(name, long),
			"Sync": d.Sync(name), "Sync behind a": d.Sync("a", name), "Sync behind none": d.Sync("none", name), "Sync ahead": d.Sync(name, "a"),
			"Rename from": d.Rename(name, "a"), "Rename to": d.Rename("a", name), "Rename of none": d.Rename("none", name), "Rename to itself": d.Rename(name, name),
			"Delete": d.Delete(name), "Cut": d.Cut(name, 0), "Cut below 0": d.Cut(name, -1),
			"Put": d.Put(name, "x"), "Put of too much": d.Put(name, long),
		} {
			expect(t, fmt.Sprintf("%s, %q", what, name), e, api.ErrArg)
		}
		if s, e := d.Read(name); s != "" || e != api.ErrNone || d.Kept(name) != 0 || d.Kept("a") != 4 || look(d) != before {
			t.Errorf("%q: %q, %d, %s", name, s, e, look(d))
		}
	}
}

// P6.2.
func TestAppend(t *testing.T) {
	d := disk.New(100)
	expect(t, "Append", d.Append("a"), api.OK)
	expectFile(t, d, "a", "", 0)
	expect(t, "Append", d.Append("a", "x", "", "yz", "\x00"), api.OK)
	expectFile(t, d, "a", "xyz\x00", 0)
	expect(t, "Append", d.Append("b", ""), api.OK)
	expectFile(t, d, "b", "", 0)
	expect(t, "Sync", d.Sync("a"), api.OK)
	expect(t, "Append", d.Append("a", "w"), api.OK)
	expect(t, "Append", d.Append("a"), api.OK)
	expectFile(t, d, "a", "xyz\x00w", 4)
	expectFile(t, d, "b", "", 0)
	expectRoom(t, d, 5, 95)
}

// P6.2: at most MaxFile bytes; that is told ahead of the room.
func TestAppendLong(t *testing.T) {
	full, half := strings.Repeat("x", file), strings.Repeat("y", file/2)
	d := disk.New(1 << 24)
	for _, l := range [][]string{{full + "x"}, {full, "x"}, {half, half, "", "x"}, {"x", full}, slices.Repeat([]string{full}, 20)} {
		expect(t, "Append of too much", d.Append("a", l...), api.ErrLong)
		expectNone(t, d, "a")
	}
	expect(t, "Append of all", d.Append("a", full[1:], "", "x"), api.OK)
	expect(t, "Append of nothing", d.Append("a", "", ""), api.OK)
	expect(t, "Append of one more", d.Append("a", "x"), api.ErrLong)
	expectFile(t, d, "a", full, 0)
	small := disk.New(10)
	expect(t, "Append beyond both", small.Append("a", full, "x"), api.ErrLong)
	expect(t, "Append beyond the room", small.Append("a", full), api.ErrFull)
	expectRoom(t, small, 0, 10)
}

// P6.2, P6.3: at most MaxFiles files; that is told ahead of the room, too.
func TestTooManyFiles(t *testing.T) {
	d := disk.New(files)
	for i := range files {
		expect(t, "Append", d.Append("f"+strconv.Itoa(i)), api.OK)
	}
	for _, s := range []string{"", "x", strings.Repeat("x", files+1)} {
		expect(t, "Append of one too many", d.Append("new", s), api.ErrLong)
		expect(t, "Put of one too many", d.Put("new", s), api.ErrLong)
	}
	expectNone(t, d, "new")
	expect(t, "Append to one of them", d.Append("f7", "x"), api.OK)
	expect(t, "Put of one of them", d.Put("f8", "xy"), api.OK)
	expectRoom(t, d, 3, files-3)
	expect(t, "Rename", d.Rename("f0", "new"), api.OK)
	expect(t, "Append of one too many", d.Append("f0"), api.ErrLong)
	expect(t, "Rename", d.Rename("new", "f1"), api.OK)
	expect(t, "Append of the last one", d.Append("f0"), api.OK)
	expect(t, "Append of one too many", d.Append("new"), api.ErrLong)
	expect(t, "Delete", d.Delete("f50"), api.OK)
	expect(t, "Put of the last one", d.Put("new", ""), api.OK)
	expect(t, "Put of one too many", d.Put("f50", ""), api.ErrLong)
	if n := len(d.Names()); n != files {
		t.Errorf("%d files", n)
	}
}

// P6.2, P6.3: room for so many bytes, of all files.
func TestFull(t *testing.T) {
	d := disk.New(10)
	expect(t, "Append", d.Append("a", "1234", "56"), api.OK)
	for _, name := range []string{"a", "b"} {
		before := look(d)
		expect(t, "Append of too much", d.Append(name, "123", "45"), api.ErrFull)
		if look(d) != before {
			t.Errorf("%s; want %s", look(d), before)
		}
	}
	expect(t, "Append", d.Append("b", "1234"), api.OK)
	expectRoom(t, d, 10, 0)
	expect(t, "Append of nothing", d.Append("c", ""), api.OK)
	expect(t, "Append of too much", d.Append("c", "1"), api.ErrFull)
	expect(t, "Cut", d.Cut("a", 5), api.OK)
	expectRoom(t, d, 9, 1)
	expect(t, "Append", d.Append("c", "1"), api.OK)
	expect(t, "Rename", d.Rename("c", "b"), api.OK)
	expectRoom(t, d, 6, 4)
	expect(t, "Append of too much", d.Append("a", "12345"), api.ErrFull)
	expect(t, "Delete", d.Delete("a"), api.OK)
	expectRoom(t, d, 1, 9)
	expect(t, "Append", d.Append("d", "123456789"), api.OK)
	d.Crash(0, 3)
	expectRoom(t, d, 3, 7)
	none := disk.New(0)
	expect(t, "Append", none.Append("a"), api.OK)
	expect(t, "Append of too much", none.Append("a", "1"), api.ErrFull)
	expect(t, "Put of too much", none.Put("a", "1"), api.ErrFull)
	expectFile(t, none, "a", "", 0)
}

// P6.1: the greatest room there is.
func TestGreatestRoom(t *testing.T) {
	d, full := disk.New(1<<24), strings.Repeat("x", file)
	for i := range 16 {
		expect(t, "Append", d.Append("f"+strconv.Itoa(i), full), api.OK)
	}
	expectRoom(t, d, 1<<24, 0)
	expect(t, "Append of too much", d.Append("g", "x"), api.ErrFull)
	expect(t, "Append of far too much", d.Append("g", full), api.ErrFull)
}

// P6.2.
func TestSync(t *testing.T) {
	d := disk.New(100)
	for _, name := range []string{"a", "b", "c"} {
		expect(t, "Append", d.Append(name, "xyz"), api.OK)
	}
	expect(t, "Sync of none", d.Sync(), api.OK)
	for _, l := range [][]string{{"none"}, {"a", "none"}, {"none", "a"}, {"a", "b", "d", "c"}} {
		expect(t, "Sync of one that isn't there", d.Sync(l...), api.ErrNone)
	}
	for _, name := range d.Names() {
		expectFile(t, d, name, "xyz", 0)
	}
	expect(t, "Sync", d.Sync("c", "a", "c"), api.OK)
	expect(t, "Append", d.Append("a", "w"), api.OK)
	expectFile(t, d, "a", "xyzw", 3)
	expectFile(t, d, "b", "xyz", 0)
	expectFile(t, d, "c", "xyz", 3)
	expect(t, "Sync", d.Sync("a"), api.OK)
	expectFile(t, d, "a", "xyzw", 4)
}

// P6.2.
func TestRename(t *testing.T) {
	d := disk.New(100)
	expect(t, "Put", d.Put("a", "kept"), api.OK)
	expect(t, "Append", d.Append("a", " or not"), api.OK)
	expect(t, "Append", d.Append("b", "bytes of another one"), api.OK)
	expect(t, "Rename of none", d.Rename("none", "b"), api.ErrNone)
	expect(t, "Rename of none", d.Rename("none", "none"), api.ErrNone)
	expect(t, "Rename to itself", d.Rename("a", "a"), api.OK)
	expectFile(t, d, "a", "kept or not", 4)
	expect(t, "Rename", d.Rename("a", "c"), api.OK)
	expectNone(t, d, "a")
	expectFile(t, d, "c", "kept or not", 4)
	expect(t, "Rename to one that is there", d.Rename("c", "b"), api.OK)
	expectNone(t, d, "c")
	expectFile(t, d, "b", "kept or not", 4)
	expectRoom(t, d, 11, 89)
	expect(t, "Append", d.Append("a", "new"), api.OK)
	expect(t, "Append", d.Append("b", "!"), api.OK)
	expectFile(t, d, "a", "new", 0)
	expectFile(t, d, "b", "kept or not!", 4)
}

// P6.2.
func TestDelete(t *testing.T) {
	d := some(t)
	expect(t, "Delete of none", d.Delete("none"), api.ErrNone)
	expect(t, "Delete", d.Delete("a"), api.OK)
	expectNone(t, d, "a")
	expect(t, "Delete again", d.Delete("a"), api.ErrNone)
	expect(t, "Append", d.Append("a", "new"), api.OK)
	expectFile(t, d, "a", "new", 0)
	expect(t, "Delete", d.Delete("b"), api.OK)
	expectRoom(t, d, 3, someRoom-3)
}

// P6.2: what is cut off is gone; of the others as many are kept as were.
func TestCut(t *testing.T) {
	for _, c := range []struct{ size, kept int }{{0, 0}, {1, 1}, {3, 3}, {4, 4}, {5, 4}, {10, 4}, {11, 4}} {
		d := disk.New(100)
		expect(t, "Put", d.Put("a", "kept"), api.OK)
		expect(t, "Append", d.Append("a", " or not"), api.OK)
		for _, size := range []int{-1, 12, math.MinInt, math.MaxInt} {
			expect(t, "Cut", d.Cut("a", size), api.ErrArg)
			expect(t, "Cut of none", d.Cut("none", size), api.ErrNone)
		}
		expectFile(t, d, "a", "kept or not", 4)
		expect(t, "Cut", d.Cut("a", c.size), api.OK)
		expectFile(t, d, "a", "kept or not"[:c.size], c.kept)
		expectRoom(t, d, c.size, 100-c.size)
		expect(t, "Cut", d.Cut("a", c.size+1), api.ErrArg)
		expect(t, "Append", d.Append("a", "x"), api.OK)
		expectFile(t, d, "a", "kept or not"[:c.size]+"x", c.kept)
		d.Crash()
		expectFile(t, d, "a", "kept or not"[:c.kept], c.kept)
	}
}

// P6.3.
func TestRead(t *testing.T) {
	d := disk.New(100)
	expectNone(t, d, "a")
	expect(t, "Append", d.Append("a", "\x00\xff"), api.OK)
	s, e := d.Read("a")
	expect(t, "Append", d.Append("a", "more"), api.OK)
	if s != "\x00\xff" || e != api.OK {
		t.Errorf("%q, %d", s, e)
	}
	expectFile(t, d, "a", "\x00\xffmore", 0)
}

// P6.3: without power nothing is read, but the rest is told, and laid.
func TestWithoutPower(t *testing.T) {
	d := disk.New(100)
	expect(t, "Put", d.Put("a", "kept"), api.OK)
	expect(t, "Append", d.Append("a", "more"), api.OK)
	d.Arm(0)
	expect(t, "Sync", d.Sync("a"), api.ErrOff)
	for _, name := range []string{"a", "none", ""} {
		if s, e := d.Read(name); s != "" || e != api.ErrOff {
			t.Errorf("Read(%q): %q, %d", name, s, e)
		}
	}
	if !slices.Equal(d.Names(), []string{"a"}) || d.Kept("a") != 4 {
		t.Errorf("%q, %d", d.Names(), d.Kept("a"))
	}
	expectRoom(t, d, 8, 92)
	expect(t, "Put", d.Put("b", "xyz"), api.OK)
	if d.On() || d.Uses() != 2 || !slices.Equal(d.Names(), []string{"a", "b"}) || d.Kept("b") != 3 {
		t.Errorf("%t, %d, %q, %d", d.On(), d.Uses(), d.Names(), d.Kept("b"))
	}
	expectRoom(t, d, 11, 89)
	d.Crash()
	expectFile(t, d, "a", "kept", 4)
	expectFile(t, d, "b", "xyz", 3)
}

// P6.3: names that begin with one of some texts, rising, each once.
func TestNamesBeginning(t *testing.T) {
	d := disk.New(100)
	if l := d.Names(); len(l) != 0 {
		t.Errorf("%q", l)
	}
	all := []string{"\x00", "a", "a\x00", "aa", "ab", "b", "log.1", "log.10", "log.2", "\xff"}
	for _, i := range []int{3, 0, 9, 6, 2, 8, 1, 5, 7, 4} {
		expect(t, "Append", d.Append(all[i]), api.OK)
	}
	for _, c := range []struct{ fronts, want []string }{
		{nil, all}, {[]string{""}, all}, {[]string{"none", ""}, all}, {[]string{"a", ""}, all},
		{[]string{"a"}, all[1:5]}, {[]string{"a", "aa", "a"}, all[1:5]}, {[]string{"aa", "ab"}, all[3:5]},
		{[]string{"log."}, all[6:9]}, {[]string{"log.1"}, all[6:8]}, {[]string{"log.2", "b"}, []string{"b", "log.2"}},
		{[]string{"none"}, nil}, {[]string{"aaa"}, nil}, {[]string{"A"}, nil}, {[]string{"og"}, nil}, {[]string{"\xff", "\x00"}, []string{"\x00", "\xff"}},
		{[]string{strings.Repeat("a", 100)}, nil},
	} {
		if l := d.Names(c.fronts...); !slices.Equal(l, c.want) {
			t.Errorf("Names(%q): %q", c.fronts, l)
		}
	}
	d.Names()[0] = "spoilt"
	if l := d.Names(); !slices.Equal(l, all) {
		t.Errorf("Names shares its memory: %q", l)
	}
}

// P6.3: a file instead of the one that there is, all kept.
func TestPut(t *testing.T) {
	full := strings.Repeat("x", file)
	d := disk.New(file + 5)
	expect(t, "Put", d.Put("a", ""), api.OK)
	expectFile(t, d, "a", "", 0)
	expect(t, "Append", d.Append("a", "abc"), api.OK)
	expect(t, "Put", d.Put("a", "xy"), api.OK)
	expectFile(t, d, "a", "xy", 2)
	expect(t, "Put of too much", d.Put("a", full+"x"), api.ErrLong)
	expect(t, "Put of too much", d.Put("b", full+"x"), api.ErrLong)
	expect(t, "Put", d.Put("b", "123456"), api.OK)
	expect(t, "Put beyond the room", d.Put("c", full), api.ErrFull)
	expect(t, "Put beyond the room", d.Put("a", full), api.ErrFull)
	expectNone(t, d, "c")
	expectFile(t, d, "a", "xy", 2)
	expect(t, "Put", d.Put("b", ""), api.OK)
	expect(t, "Put of all", d.Put("a", full), api.OK)
	expect(t, "Put of the rest", d.Put("b", "12345"), api.OK)
	expect(t, "Put beyond the room", d.Put("b", "123456"), api.ErrFull)
	expectRoom(t, d, file+5, 0)
	expectFile(t, d, "b", "12345", 5)
	expect(t, "Put of as much", d.Put("a", strings.Repeat("y", file)), api.OK)
	expectRoom(t, d, file+5, 0)
	if d.Uses() != 1 {
		t.Errorf("%d uses", d.Uses())
	}
}

// P6.3: Put heeds no arming, and doesn't end it.
func TestPutOfArmed(t *testing.T) {
	d := disk.New(100)
	d.Arm(0)
	expect(t, "Put", d.Put("a", "xy"), api.OK)
	expectFile(t, d, "a", "xy", 2)
	expect(t, "Sync", d.Sync("a"), api.ErrOff)
}

// crashing is a disk of three files and one without bytes, of which 2, 0, 3 and
// 0 bytes are kept.
func crashing(t *testing.T) *disk.Disk {
	t.Helper()
	d := disk.New(100)
	for _, e := range []api.Errno{d.Append("c", "ccc"), d.Append("a", "aa"), d.Sync("a", "c"), d.Append("b", "bbbb"), d.Append("a", "AAA"), d.Append("d")} {
		expect(t, "crashing", e, api.OK)
	}
	return d
}

// P6.4: by the lowest name first, whatever was made first.
func TestCrash(t *testing.T) {
	for _, c := range []struct {
		keep []int
		a, b int
	}{
		{nil, 2, 0}, {[]int{0}, 2, 0}, {[]int{1}, 3, 0}, {[]int{2, 1}, 4, 1}, {[]int{3, 3, 9, 9, 9}, 5, 3}, {[]int{0, 4}, 2, 4}, {[]int{9, 9}, 5, 4},
		{[]int{-1, 2}, 2, 2}, {[]int{math.MinInt, math.MinInt}, 2, 0}, {[]int{math.MaxInt, math.MaxInt, math.MaxInt, math.MaxInt}, 5, 4}, {[]int{4, -2}, 5, 0},
	} {
		d := crashing(t)
		d.Crash(c.keep...)
		for range 2 {
			expectFile(t, d, "a", "aaAAA"[:c.a], c.a)
			expectFile(t, d, "b", "bbbb"[:c.b], c.b)
			expectFile(t, d, "c", "ccc", 3)
			expectFile(t, d, "d", "", 0)
			expectRoom(t, d, c.a+c.b+3, 97-c.a-c.b)
			d.Crash() // all that stayed are kept
		}
		expect(t, "Append", d.Append("a", "!"), api.OK)
		expectFile(t, d, "a", "aaAAA"[:c.a]+"!", c.a)
	}
}

// P6.4: the power is on, and not armed, whatever it was.
func TestCrashOfPower(t *testing.T) {
	for n := range 4 {
		d := crashing(t)
		d.Arm(n)
		for range 2 {
			d.Sync()
		}
		d.Crash()
		if !d.On() || d.Uses() != 6+min(n+1, 2) {
			t.Errorf("armed with %d: %t, %d uses", n, d.On(), d.Uses())
		}
		for range 10 {
			expect(t, "Sync", d.Sync(), api.OK)
		}
		d.Arm(0)
		expect(t, "Sync", d.Sync(), api.ErrOff)
		d.Arm(0)
		d.Crash()
		expect(t, "Sync", d.Sync("a"), api.OK)
	}
}

// What is handed in stays, its spare room, too, and isn't kept.
func TestHandedInStays(t *testing.T) {
	d := crashing(t)
	l, keep := []string{"a", "b", "c"}, []int{1, 1, 1}
	expect(t, "Append", d.Append("e", l[:2]...), api.OK)
	expect(t, "Sync", d.Sync(l[:2]...), api.OK)
	d.Names(l[:2]...)
	d.Crash(keep[:2]...)
	if !slices.Equal(l, []string{"a", "b", "c"}) || !slices.Equal(keep, []int{1, 1, 1}) {
		t.Errorf("%q, %d", l, keep)
	}
	expect(t, "Append", d.Append("f", l...), api.OK)
	l[0] = "spoilt"
	expectFile(t, d, "f", "abc", 0)
}
