package undo_test

import (
	"fmt"
	"math/rand"
	"slices"
	"testing"

	"afflux/api"
	"afflux/schema"
	"afflux/table"
	"afflux/undo"
	"afflux/value"
)

// P10.2: a tracked table has all that a table has.
func TestTrack(t *testing.T) {
	own := fresh(t, "t", row(1, "x"), row(2, "y"), row(3, "x"))
	var j undo.Journal
	l := undo.Track(&j, own)
	if len(l) != 1 {
		t.Fatalf("%d tables", len(l))
	}
	x := l[0]
	if !schema.Same(x.Schema(), good("t")) || x.Len() != 3 || x.In(1) != 2 || len(x.Rows(0)) != 1 || x.Bytes() != own.Bytes() || x.Table != own {
		t.Error("not all is as the table's")
	}
	if k, e := x.Key(row(1, "x")...); k != key(1) || e != api.OK {
		t.Errorf("Key: %x, %d", k, e)
	}
	if r, ok := x.Get(key(2)); !ok || !slices.Equal(r, row(2, "y")) {
		t.Errorf("Get: %v, %t", r, ok)
	}
	if k, r, ok := x.Next(0, key(1), 1); k != key(3) || !ok || !slices.Equal(r, row(3, "x")) {
		t.Errorf("Next: %x, %v, %t", k, r, ok)
	}
	expectMark(t, &j, 0)
	own.Delete(key(1))
	expectKeys(t, x, 2, 3)
	expectMark(t, &j, 0)
	expect(t, "Delete", x.Delete(key(2)), api.OK)
	if own.Len() != 1 {
		t.Errorf("the table has %d rows", own.Len())
	}
}

// P10.2: of several tables, of one told twice, and of none.
func TestTrackMany(t *testing.T) {
	if l := undo.Track(&undo.Journal{}); len(l) != 0 {
		t.Errorf("%d tables", len(l))
	}
	a, b := fresh(t, "a"), fresh(t, "b")
	given := []*table.Table{a, nil, b, a}
	var j undo.Journal
	l := undo.Track(&j, given...)
	if len(l) != 4 || l[0].Schema().Name != "a" || l[1].Schema().Name != "" || l[2].Schema().Name != "b" || l[3].Schema().Name != "a" {
		t.Fatalf("%d tables", len(l))
	}
	given[0] = nil
	expect(t, "Insert", l[0].Insert(row(1, "x")...), api.OK)
	expect(t, "Insert", l[2].Insert(row(1, "x")...), api.OK)
	expect(t, "Insert", l[3].Insert(row(1, "x")...), api.ErrTwice)
	expect(t, "Update", l[3].Update(key(1), row(2, "x")...), api.OK)
	expectMark(t, &j, 3)
	expectKeys(t, l[0], 2)
	expectKeys(t, l[2], 1)
	expectBack(t, &j, 1, 2)
	expectKeys(t, l[0], 1)
	expectKeys(t, l[2])
	expectBack(t, &j, 0, 1)
	expectKeys(t, l[3])
}

// P10.2: what is done is noted, and taken back.
func TestChanges(t *testing.T) {
	for what, do := range map[string]func(x *undo.Table) api.Errno{
		"Insert":        func(x *undo.Table) api.Errno { return x.Insert(row(0, "z")...) },
		"Update":        func(x *undo.Table) api.Errno { return x.Update(key(2), row(2, "z")...) },
		"Update of key": func(x *undo.Table) api.Errno { return x.Update(key(2), row(9, "y")...) },
		"Update of all": func(x *undo.Table) api.Errno { return x.Update(key(1), row(-7, "y")...) },
		"Update to it":  func(x *undo.Table) api.Errno { return x.Update(key(2), row(2, "y")...) },
		"Delete":        func(x *undo.Table) api.Errno { return x.Delete(key(1)) },
	} {
		j, x := tracked(t)
		was := tell(x)
		expect(t, what, do(x), api.OK)
		expectMark(t, j, 1)
		if tell(x) == was && what != "Update to it" {
			t.Errorf("%s: nothing was done", what)
		}
		expectBack(t, j, 0, 1)
		if got := tell(x); got != was {
			t.Errorf("%s: %s; want %s", what, got, was)
		}
	}
}

// P10.2: the table's errors; nothing is done, and nothing noted.
func TestChangeErrors(t *testing.T) {
	for _, c := range []struct {
		what string
		want api.Errno
		do   func(x *undo.Table) api.Errno
	}{
		{"Insert of a misfit", api.ErrType, func(x *undo.Table) api.Errno { return x.Insert(value.Int(1)) }},
		{"Insert of nothing", api.ErrType, func(x *undo.Table) api.Errno { return x.Insert() }},
		{"Insert twice", api.ErrTwice, func(x *undo.Table) api.Errno { return x.Insert(row(1, "z")...) }},
		{"Update of none", api.ErrNone, func(x *undo.Table) api.Errno { return x.Update(key(7), row(7, "z")...) }},
		{"Update to a misfit", api.ErrType, func(x *undo.Table) api.Errno { return x.Update(key(1), value.Int(1)) }},
		{"Update twice", api.ErrTwice, func(x *undo.Table) api.Errno { return x.Update(key(1), row(2, "z")...) }},
		{"Delete of none", api.ErrNone, func(x *undo.Table) api.Errno { return x.Delete(key(7)) }},
		{"Delete of nothing", api.ErrNone, func(x *undo.Table) api.Errno { return x.Delete("") }},
	} {
		j, x := tracked(t)
		was := tell(x)
		expect(t, c.what, c.do(x), c.want)
		expectMark(t, j, 0)
		if tell(x) != was {
			t.Errorf("%s: something was done", c.what)
		}
	}
	j, x := tracked(t)
	for i := range int64(7) {
		expect(t, "Insert", x.Insert(row(10+i, "z")...), api.OK)
	}
	expect(t, "Insert", x.Insert(row(99, "z")...), api.ErrLimit)
	expectMark(t, j, 7)
}

// P10.2: all rows are deleted, each noted, in the order of their keys.
func TestClear(t *testing.T) {
	j, x := tracked(t)
	x.Insert(row(0, "z")...)
	was := tell(x)
	expect(t, "Clear", x.Clear(), api.OK)
	expectKeys(t, x)
	expectMark(t, j, 5)
	for i, want := range [][]int64{{3}, {2, 3}, {1, 2, 3}, {0, 1, 2, 3}} {
		expectBack(t, j, 4-i, 1)
		expectKeys(t, x, want...)
	}
	if tell(x) != was {
		t.Errorf("%s; want %s", tell(x), was)
	}
	expect(t, "Clear", x.Clear(), api.OK)
	expect(t, "Clear", x.Clear(), api.OK)
	expectMark(t, j, 5)
}

// P10.2: without a table.
func TestTrackNil(t *testing.T) {
	var j undo.Journal
	l := undo.Track(&j, nil, nil)
	if len(l) != 2 {
		t.Fatalf("%d tables", len(l))
	}
	for _, x := range append(l, &undo.Table{}) {
		expectNoTable(t, x)
		if k, e := x.Key(row(1, "x")...); k != "" || e != api.ErrArg {
			t.Errorf("Key: %x, %d", k, e)
		}
		if r, ok := x.Get(key(1)); len(r) != 0 || ok {
			t.Errorf("Get: %v, %t", r, ok)
		}
		if k, r, ok := x.First(0); k != "" || len(r) != 0 || ok {
			t.Errorf("First: %x, %v, %t", k, r, ok)
		}
		if x.Len() != 0 || x.In() != 0 || len(x.Rows()) != 0 || len(x.Scan(0, "", "", 9)) != 0 || x.Bytes() != "\x00" || x.Schema().Name != "" {
			t.Error("it has something")
		}
		expect(t, "Load", x.Load(), api.ErrArg)
	}
	expectNoTable(t, nil)
	expectMark(t, &j, 0)
}

// expectNoTable: nothing can be done.
func expectNoTable(t *testing.T, x *undo.Table) {
	t.Helper()
	expect(t, "Insert", x.Insert(row(1, "x")...), api.ErrArg)
	expect(t, "Insert", x.Insert(), api.ErrArg)
	expect(t, "Update", x.Update(key(1), row(1, "x")...), api.ErrArg)
	expect(t, "Delete", x.Delete(key(1)), api.ErrArg)
	expect(t, "Clear", x.Clear(), api.ErrArg)
}

// P10.1, P10.2: without a journal all is done, and nothing noted.
func TestTrackWithoutJournal(t *testing.T) {
	x := undo.Track(nil, fresh(t, "t", row(1, "x")))[0]
	expect(t, "Insert", x.Insert(row(2, "y")...), api.OK)
	expect(t, "Update", x.Update(key(1), row(3, "y")...), api.OK)
	expect(t, "Delete", x.Delete(key(2)), api.OK)
	expectKeys(t, x, 3)
	expect(t, "Clear", x.Clear(), api.OK)
	expectKeys(t, x)
}

// What is handed in is neither changed nor kept.
func TestHandedInStays(t *testing.T) {
	j, x := tracked(t)
	r := row(5, "z")
	x.Insert(r...)
	clear(r)
	was := tell(x)
	r = row(6, "z")
	x.Update(key(5), r...)
	clear(r)
	for _, r := range x.Rows() {
		clear(r)
	}
	x.Delete(key(6))
	expectBack(t, j, 1, 2)
	if tell(x) != was {
		t.Errorf("%s; want %s", tell(x), was)
	}
}

// P10.4: the document's example.
func TestExample(t *testing.T) {
	var j undo.Journal
	x := undo.Track(&j, fresh(t, "t"))[0]
	x.Insert(row(1, "x")...)
	m := j.Mark()
	x.Insert(row(2, "x")...)
	x.Delete(key(1))
	expectBack(t, &j, m, 2)
	expectKeys(t, x, 1)
}

// P10.4: what was taken away, and put otherwise, at the limit, too.
func TestBackAtLimit(t *testing.T) {
	j, x := tracked(t)
	for i := range int64(7) {
		x.Insert(row(10+i, "z")...)
	}
	was, m := tell(x), j.Mark()
	x.Delete(key(1))
	x.Update(key(2), row(1, "x")...)
	x.Insert(row(2, "x")...)
	x.Update(key(3), row(30, "y")...)
	x.Clear()
	x.Insert(row(3, "q")...)
	expectBack(t, j, m, 4+10+1)
	if tell(x) != was {
		t.Errorf("%s; want %s", tell(x), was)
	}
}

// P10.1: what is kept stays behind Back.
func TestKeptStays(t *testing.T) {
	j, x := tracked(t)
	x.Delete(key(1))
	j.Keep()
	was := tell(x)
	x.Insert(row(1, "new")...)
	expectBack(t, j, 0, 1)
	if tell(x) != was {
		t.Errorf("%s; want %s", tell(x), was)
	}
}

// P10.3: changes of other kinds are taken back where they were noted.
func TestNoteAmong(t *testing.T) {
	j, x := tracked(t)
	var seen []int
	count := does(func() { seen = append(seen, x.Len()) })
	j.Note(count)
	x.Delete(key(1))
	j.Note(count)
	x.Delete(key(2))
	x.Delete(key(3))
	j.Note(count)
	expectBack(t, j, 0, 6)
	if fmt.Sprint(seen) != "[0 2 3]" {
		t.Errorf("seen: %v", seen)
	}
}

// change does something with one of some tables.
func change(r *rand.Rand, l []*undo.Table) {
	x := l[r.Intn(len(l))]
	n, s := int64(r.Intn(9)), []string{"", "a", "b"}[r.Intn(3)]
	switch r.Intn(20) {
	case 0:
		x.Clear()
	case 1, 2, 3, 4:
		x.Delete(key(n))
	case 5, 6, 7, 8, 9, 10, 11:
		x.Update(key(n), row(int64(r.Intn(9)), s)...)
	default:
		x.Insert(row(n, s)...)
	}
}

// P10.4: back to any mark all tables are as they were at it, over and over.
func TestBackToMarks(t *testing.T) {
	for seed := range int64(30) {
		r := rand.New(rand.NewSource(seed))
		j := &undo.Journal{}
		l := undo.Track(j, fresh(t, "a"), fresh(t, "b", row(1, "a"), row(5, "b")), fresh(t, "c"))
		marks, was := []int{0}, []string{tell(l...)}
		for range 60 {
			for range r.Intn(12) {
				change(r, l)
			}
			if r.Intn(3) > 0 {
				marks, was = append(marks, j.Mark()), append(was, tell(l...))
				continue
			}
			at := r.Intn(len(marks))
			expectBack(t, j, marks[at], j.Mark()-marks[at])
			expectMark(t, j, marks[at])
			if got := tell(l...); got != was[at] {
				t.Fatalf("back to %d: %s; want %s", marks[at], got, was[at])
			}
			marks, was = marks[:at+1], was[:at+1]
		}
	}
}

// No call panics, whatever else was done with a table since.
func TestChangedElsewhere(t *testing.T) {
	for _, spoil := range []func(x *undo.Table){
		func(x *undo.Table) { x.Load() },
		func(x *undo.Table) { x.Load(row(1, "z"), row(2, "z"), row(9, "z")) },
		func(x *undo.Table) { x.Load([]api.Value{}) },
		func(x *undo.Table) { x.Table.Delete(key(3)) },
		func(x *undo.Table) { x.Table.Insert(row(1, "z")...) },
		func(x *undo.Table) { x.Table = nil },
	} {
		j, x := tracked(t)
		x.Delete(key(1))
		x.Update(key(2), row(9, "q")...)
		x.Insert(row(2, "z")...)
		spoil(x)
		x.Clear()
		j.Back(0)
		expectMark(t, j, 0)
	}
}
