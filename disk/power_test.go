package disk_test

import (
	"math"
	"slices"
	"testing"

	"afflux/api"
	"afflux/disk"
)

// a use is one of the disk's uses, and what it answers on a disk of some.
type use struct {
	name string
	ask  func(d *disk.Disk) api.Errno
	want api.Errno
}

// done are uses that can be done.
func done() []use {
	return []use{
		{"Append", func(d *disk.Disk) api.Errno { return d.Append("a", "more") }, api.OK},
		{"Append of a new one", func(d *disk.Disk) api.Errno { return d.Append("new") }, api.OK},
		{"Sync", func(d *disk.Disk) api.Errno { return d.Sync("a", "b") }, api.OK},
		{"Sync of none", func(d *disk.Disk) api.Errno { return d.Sync() }, api.OK},
		{"Rename", func(d *disk.Disk) api.Errno { return d.Rename("a", "b") }, api.OK},
		{"Rename to itself", func(d *disk.Disk) api.Errno { return d.Rename("a", "a") }, api.OK},
		{"Delete", func(d *disk.Disk) api.Errno { return d.Delete("a") }, api.OK},
		{"Cut", func(d *disk.Disk) api.Errno { return d.Cut("a", 1) }, api.OK},
	}
}

// refused are uses that can't be done.
func refused() []use {
	return []use{
		{"an empty name", func(d *disk.Disk) api.Errno { return d.Append("", "x") }, api.ErrArg},
		{"a long name", func(d *disk.Disk) api.Errno { return d.Sync("a", "a name of 21 bytes...") }, api.ErrArg},
		{"no file to sync", func(d *disk.Disk) api.Errno { return d.Sync("a", "none") }, api.ErrNone},
		{"no file to rename", func(d *disk.Disk) api.Errno { return d.Rename("none", "a") }, api.ErrNone},
		{"no file to delete", func(d *disk.Disk) api.Errno { return d.Delete("none") }, api.ErrNone},
		{"no file to cut", func(d *disk.Disk) api.Errno { return d.Cut("none", 0) }, api.ErrNone},
		{"a size below 0", func(d *disk.Disk) api.Errno { return d.Cut("a", -1) }, api.ErrArg},
		{"too much for a file", func(d *disk.Disk) api.Errno { return d.Append("a", string(make([]byte, api.MaxFile))) }, api.ErrLong},
		{"too much for the disk", func(d *disk.Disk) api.Errno { return d.Append("a", string(make([]byte, 2000))) }, api.ErrFull},
	}
}

// P6.1: rooms.
func TestNew(t *testing.T) {
	for _, room := range []int{0, 1, 2000, 1 << 24} {
		d := disk.New(room)
		if d == nil || !d.On() || d.Uses() != 0 || len(d.Names()) != 0 || d.Used() != 0 || d.Free() != room {
			t.Errorf("New(%d): %s", room, look(d))
		}
	}
	for _, room := range []int{-1, math.MinInt, 1<<24 + 1, math.MaxInt} {
		if disk.New(room) != nil {
			t.Errorf("New(%d) is a disk", room)
		}
	}
}

// P6.1: disks have nothing to do with one another.
func TestDisksAreTheirOwn(t *testing.T) {
	a, b := disk.New(100), disk.New(100)
	expect(t, "Append", a.Append("x", "y"), api.OK)
	a.Arm(0)
	expect(t, "Sync", a.Sync("x"), api.ErrOff)
	if a.On() || !b.On() || b.Uses() != 0 || b.Used() != 0 || len(b.Names()) != 0 {
		t.Error("a disk heeds another one")
	}
}

// P6.1: each use counts, whatever it answers; nothing else does.
func TestUsesCount(t *testing.T) {
	for _, u := range append(done(), refused()...) {
		d := some(t)
		before := look(d)
		expect(t, u.name, u.ask(d), u.want)
		if d.Uses() != someUses+1 || d.Power.Uses() != someUses+1 {
			t.Errorf("%s: %d uses", u.name, d.Uses())
		}
		if u.want != api.OK && look(d) != before {
			t.Errorf("%s: %s; want %s", u.name, look(d), before)
		}
	}
	d := some(t)
	d.Read("a")
	d.Read("none")
	d.Names("a")
	d.Kept("a")
	d.Used()
	d.Free()
	d.On()
	d.Arm(7)
	d.Put("c", "d")
	d.Put("", "d")
	d.Crash(1, 2)
	if d.Uses() != someUses {
		t.Errorf("%d uses; want %d", d.Uses(), someUses)
	}
}

// P6.1, P6.2: the power goes off by the use behind so many, and by none ahead of
// it; that one counts, is answered ErrOff, and nothing of it is done.
func TestArm(t *testing.T) {
	for _, n := range []int{math.MinInt, -1, 0, 1, 2, 5, 40} {
		for _, u := range append(done(), refused()...) {
			d := some(t)
			before := look(d)
			d.Arm(n)
			for range max(n, 0) {
				expect(t, "Sync", d.Sync(), api.OK)
			}
			if !d.On() || !d.Power.On() {
				t.Errorf("armed with %d it goes off too soon", n)
			}
			expectOff(t, d, u, someUses+max(n, 0)+1)
			d.Crash(keepAll()...)
			if !d.On() || look(d) != before {
				t.Errorf("%s: %s; want %s", u.name, look(d), before)
			}
		}
	}
}

// expectOff: by that use the power goes off, and stays off.
func expectOff(t *testing.T, d *disk.Disk, u use, count int) {
	t.Helper()
	expect(t, u.name, u.ask(d), api.ErrOff)
	for _, other := range append(done(), refused()...) {
		expect(t, other.name, other.ask(d), api.ErrOff)
	}
	if d.On() || d.Power.On() || d.Uses() != count {
		t.Errorf("%s: %t, %d uses; want %d", u.name, d.On(), d.Uses(), count)
	}
	if s, e := d.Read("a"); s != "" || e != api.ErrOff {
		t.Errorf("Read: %q, %d", s, e)
	}
}

// P6.1: armed uses that are refused are counted, too.
func TestArmOfRefused(t *testing.T) {
	for _, u := range refused() {
		d := some(t)
		d.Arm(1)
		expect(t, u.name, u.ask(d), u.want)
		if !d.On() {
			t.Errorf("%s: the power goes off too soon", u.name)
		}
		expect(t, "Sync behind "+u.name, d.Sync(), api.ErrOff)
	}
}

// P6.1: armed anew, the last one counts.
func TestArmAnew(t *testing.T) {
	d := some(t)
	d.Arm(0)
	d.Arm(2)
	expect(t, "Sync", d.Sync(), api.OK)
	d.Arm(1)
	expect(t, "Sync", d.Sync(), api.OK)
	d.Arm(math.MaxInt)
	expect(t, "Sync", d.Sync(), api.OK)
	d.Arm(0)
	expect(t, "Sync", d.Sync(), api.ErrOff)
	d.Arm(5)
	expect(t, "Sync", d.Sync(), api.ErrOff)
	if d.On() {
		t.Error("arming turns the power on")
	}
}

// P6.1: the power that a disk embeds is its own.
func TestPowerOfDisk(t *testing.T) {
	d := some(t)
	p := &d.Power
	if !p.On() || p.Uses() != someUses {
		t.Errorf("%t, %d", p.On(), p.Uses())
	}
	p.Arm(1)
	expect(t, "Sync", d.Sync(), api.OK)
	expect(t, "Sync", d.Sync(), api.ErrOff)
	if p.On() || d.On() || p.Uses() != someUses+2 || d.Uses() != someUses+2 {
		t.Errorf("%t, %d", p.On(), p.Uses())
	}
	d.Crash()
	if !p.On() {
		t.Error("it stays off")
	}
}

// P6.1.
func TestNilPower(t *testing.T) {
	var p *disk.Power
	p.Arm(0)
	p.Arm(-1)
	if p.On() || p.Uses() != 0 {
		t.Errorf("%t, %d", p.On(), p.Uses())
	}
}

// P6.1.
func TestNilDisk(t *testing.T) {
	var d *disk.Disk
	d.Arm(1)
	d.Crash()
	d.Crash(1, 2)
	s, e := d.Read("a")
	errors := []api.Errno{
		e, d.Append("a", "b"), d.Append(""), d.Sync(), d.Sync("a"), d.Rename("a", "b"), d.Rename("a", "a"),
		d.Delete("a"), d.Cut("a", 0), d.Put("a", "b"), d.Put("", ""),
	}
	if s != "" || slices.ContainsFunc(errors, func(e api.Errno) bool { return e != api.ErrArg }) {
		t.Errorf("%q, %d", s, errors)
	}
	if d.On() || d.Uses() != 0 || len(d.Names()) != 0 || len(d.Names("")) != 0 || d.Kept("a") != 0 || d.Used() != 0 || d.Free() != 0 {
		t.Error("a nil disk has something")
	}
}

// Of a Disk that New didn't make nothing is promised but that no call panics,
// by whatever call its first file comes.
func TestZeroDisk(t *testing.T) {
	calls := append(done(), refused()...)
	calls = append(calls, use{name: "Put", ask: func(d *disk.Disk) api.Errno { return d.Put("a", "") }})
	for _, first := range calls {
		var d disk.Disk
		first.ask(&d)
		d.Crash(1)
		for _, u := range append([]use{first}, calls...) {
			u.ask(&d)
		}
		d.Read("a")
		d.Names("")
		d.Kept("a")
		d.Used()
		d.Free()
		d.Arm(0)
		d.Crash(1)
	}
}
