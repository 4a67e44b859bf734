package wal_test

import (
	"encoding/binary"
	"fmt"
	"slices"
	"strings"
	"testing"

	"afflux/api"
	"afflux/disk"
	"afflux/seal"
	"afflux/wal"
)

const (
	someRoom = 1 << 20
	most     = 99999999
	longest  = 65000
	// over is how many bytes a record has in its segment besides its data: those
	// of its number, and of its frame.
	over = 8 + 12
)

// record is a record as it stands in a segment.
func record(number uint64, data string) string {
	f, ok := seal.Frame(string(binary.BigEndian.AppendUint64(nil, number)), data)
	if !ok {
		panic("too much for a frame")
	}
	return f
}

// segment is records one behind the other.
func segment(first int, data ...string) string {
	out := ""
	for i, s := range data {
		out += record(uint64(first+i), s)
	}
	return out
}

// recs are records as they are told.
func recs(first int, data ...string) []api.Rec {
	var out []api.Rec
	for i, s := range data {
		out = append(out, api.Rec{Seq: first + i, Data: s})
	}
	return out
}

// brief is records' numbers and some of their data.
func brief(l []api.Rec) string {
	var out strings.Builder
	for _, r := range l {
		fmt.Fprintf(&out, "%d: %.10q (%d bytes); ", r.Seq, r.Data, len(r.Data))
	}
	return out.String()
}

// look is all that lies on a disk, how many bytes are kept, too.
func look(d *disk.Disk) string {
	var out strings.Builder
	for _, name := range d.Names() {
		s, e := d.Read(name)
		fmt.Fprintf(&out, "%q: %d bytes, %d kept, %x, %d; ", name, len(s), d.Kept(name), seal.Of(s), e)
	}
	return out.String()
}

func expect(t *testing.T, what string, got, want api.Errno) {
	t.Helper()
	if got != want {
		t.Errorf("%s: %d; want %d", what, got, want)
	}
}

// laid is a disk on which these files lie: names and bytes in turns.
func laid(t *testing.T, files ...string) *disk.Disk {
	t.Helper()
	d := disk.New(someRoom)
	for i := 0; i < len(files); i += 2 {
		expect(t, "Put", d.Put(files[i], files[i+1]), api.OK)
	}
	return d
}

// crowded is a disk that has so many further files, without bytes.
func crowded(t *testing.T, d *disk.Disk, more int) *disk.Disk {
	t.Helper()
	for i := range more {
		expect(t, "Put", d.Put(fmt.Sprint("other", i), ""), api.OK)
	}
	return d
}

// opened is the log of the name log, which tells these records.
func opened(t *testing.T, d *disk.Disk, first int, want ...api.Rec) *wal.Log {
	t.Helper()
	l, got, e := wal.Open(d, "log", first)
	if l == nil || e != api.OK || !slices.Equal(got, want) {
		t.Fatalf("Open: %d, %s; want %s", e, brief(got), brief(want))
	}
	next := first
	if len(want) > 0 {
		next = want[len(want)-1].Seq + 1
	}
	if len(want) > 0 || len(d.Names("log.")) == 0 {
		expectLog(t, l, next, next, api.OK)
	}
	return l
}

// refused: there is no log, and nothing else has changed.
func refused(t *testing.T, d *disk.Disk, name string, first int, want api.Errno) {
	t.Helper()
	before, uses := look(d), d.Uses()
	l, got, e := wal.Open(d, name, first)
	if l != nil || got != nil || e != want {
		t.Errorf("Open(%q, %d): %v, %s, %d; want %d", name, first, l, brief(got), e, want)
	}
	if look(d) != before || d.Uses() != uses {
		t.Errorf("Open(%q, %d): %s, %d uses; want %s, %d", name, first, look(d), d.Uses(), before, uses)
	}
}

// expectLog: the next number, the one below which all are safe, and the error.
func expectLog(t *testing.T, l *wal.Log, next, safe int, err api.Errno) {
	t.Helper()
	if l.Next() != next || l.Safe() != safe || l.Err() != err {
		t.Errorf("Next %d, Safe %d, Err %d; want %d, %d, %d", l.Next(), l.Safe(), l.Err(), next, safe, err)
	}
}

// appends: these data are appended, the first one by that number.
func appends(t *testing.T, l *wal.Log, first int, data ...string) {
	t.Helper()
	for i, s := range data {
		if n, e := l.Append(s); n != first+i || e != api.OK {
			t.Fatalf("Append of %d bytes: %d, %d; want %d", len(s), n, e, first+i)
		}
	}
}

// appendRefused: that isn't appended, and nothing else has changed.
func appendRefused(t *testing.T, d *disk.Disk, l *wal.Log, data string, want api.Errno) {
	t.Helper()
	before, next, safe, err := look(d), l.Next(), l.Safe(), l.Err()
	if n, e := l.Append(data); n != 0 || e != want {
		t.Errorf("Append of %d bytes: %d, %d; want %d", len(data), n, e, want)
	}
	expectLog(t, l, next, safe, err)
	if look(d) != before {
		t.Errorf("Append of %d bytes: %s; want %s", len(data), look(d), before)
	}
}

// expectFile: there is a file of these bytes, of which so many are kept.
func expectFile(t *testing.T, d *disk.Disk, name, bytes string, kept int) {
	t.Helper()
	s, e := d.Read(name)
	if s != bytes || e != api.OK || d.Kept(name) != kept {
		t.Errorf("%q: %.60q (%d bytes), %d, %d kept; want %.60q (%d bytes), %d kept", name, s, len(s), e, d.Kept(name), bytes, len(bytes), kept)
	}
}

// expectFiles: there are files of these names, and no others.
func expectFiles(t *testing.T, d *disk.Disk, want ...string) {
	t.Helper()
	if got := d.Names(); !slices.Equal(got, want) {
		t.Errorf("files %q; want %q", got, want)
	}
}
