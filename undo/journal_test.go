package undo_test

import (
	"fmt"
	"math"
	"slices"
	"testing"

	"afflux/undo"
)

func expectLog(t *testing.T, got []int, want ...int) {
	t.Helper()
	if !slices.Equal(got, want) {
		t.Errorf("taken back: %v; want %v", got, want)
	}
}

// P10.1: the changes behind the first ones, the last one first.
func TestBack(t *testing.T) {
	for _, c := range []struct{ mark, back int }{
		{math.MinInt, 5}, {-6, 5}, {-1, 5}, {0, 5}, {1, 4}, {3, 2}, {4, 1}, {5, 0}, {6, 0}, {math.MaxInt, 0},
	} {
		var j undo.Journal
		var log []int
		j.Note(steps(&log, 0, 5)...)
		expectMark(t, &j, 5)
		expectBack(t, &j, c.mark, c.back)
		want := []int{4, 3, 2, 1, 0}[:c.back]
		expectLog(t, log, want...)
		expectMark(t, &j, 5-c.back)
		expectBack(t, &j, c.mark, 0)
		expectLog(t, log, want...)
		expectBack(t, &j, 0, 5-c.back)
		expectLog(t, log, 4, 3, 2, 1, 0)
	}
}

// P10.1: of a journal that has nothing.
func TestEmpty(t *testing.T) {
	var j undo.Journal
	for _, mark := range []int{math.MinInt, -1, 0, 1, math.MaxInt} {
		expectBack(t, &j, mark, 0)
	}
	j.Keep()
	expectMark(t, &j, 0)
}

// P10.1: what is noted behind what was taken back stands in its place.
func TestBackAndOn(t *testing.T) {
	j := &undo.Journal{}
	var log []int
	j.Note(steps(&log, 0, 4)...)
	j.Back(2)
	j.Note(steps(&log, 10, 13)...)
	expectMark(t, j, 5)
	j.Back(3)
	expectLog(t, log, 3, 2, 12, 11)
	j.Back(0)
	expectLog(t, log, 3, 2, 12, 11, 10, 1, 0)
	expectMark(t, j, 0)
}

// P10.1: what is forgotten isn't taken back.
func TestKeep(t *testing.T) {
	j := &undo.Journal{}
	var log []int
	for range 3 {
		j.Note(steps(&log, 0, 4)...)
		j.Keep()
		expectMark(t, j, 0)
		expectBack(t, j, 0, 0)
	}
	expectLog(t, log)
	j.Note(steps(&log, 7, 9)...)
	expectMark(t, j, 2)
	expectBack(t, j, 0, 2)
	expectLog(t, log, 8, 7)
}

// P10.1: two journals have nothing in common.
func TestTwoJournals(t *testing.T) {
	var a, b undo.Journal
	var log []int
	a.Note(steps(&log, 0, 2)...)
	b.Note(steps(&log, 5, 8)...)
	a.Keep()
	expectMark(t, &b, 3)
	expectBack(t, &b, 1, 2)
	expectBack(t, &a, 0, 0)
	expectLog(t, log, 7, 6)
}

// P10.1: many changes.
func TestMany(t *testing.T) {
	var j undo.Journal
	var log []int
	j.Note(steps(&log, 0, 100000)...)
	expectBack(t, &j, 1, 99999)
	if len(log) != 99999 || log[0] != 99999 || log[99998] != 1 {
		t.Errorf("%d were taken back", len(log))
	}
	expectMark(t, &j, 1)
}

// P10.1, P10.3: nothing is noted by no journal.
func TestNilJournal(t *testing.T) {
	var j *undo.Journal
	var log []int
	j.Note(steps(&log, 0, 3)...)
	j.Note(nil)
	j.Note()
	j.Keep()
	expectMark(t, j, 0)
	for _, mark := range []int{math.MinInt, -1, 0, 1, math.MaxInt} {
		expectBack(t, j, mark, 0)
	}
	expectLog(t, log)
}

// P10.3: changes are noted one by one.
func TestNote(t *testing.T) {
	j := &undo.Journal{}
	var log []int
	j.Note()
	expectMark(t, j, 0)
	j.Note(step{1, &log})
	expectMark(t, j, 1)
	j.Note(step{2, &log}, step{3, &log})
	expectMark(t, j, 3)
	s := step{4, &log}
	j.Note(s, s, s)
	expectMark(t, j, 6)
	expectBack(t, j, 1, 5)
	expectLog(t, log, 4, 4, 4, 3, 2)
}

// P10.3: nil is no change.
func TestNoteOfNil(t *testing.T) {
	j := &undo.Journal{}
	var log []int
	j.Note(nil...)
	j.Note(nil)
	j.Note(nil, step{1, &log}, nil, step{2, &log}, nil)
	expectMark(t, j, 2)
	expectBack(t, j, 0, 2)
	expectLog(t, log, 2, 1)
}

// P10.3: what is handed in is neither changed nor kept, its spare room neither.
func TestNoteKeepsNoList(t *testing.T) {
	j := &undo.Journal{}
	var log []int
	room := steps(&log, 0, 4)
	j.Note(room[:2]...)
	room[0] = step{9, &log}
	j.Note(step{5, &log})
	if got := fmt.Sprint(room[1].(step).name, room[2].(step).name, room[3].(step).name); got != "1 2 3" {
		t.Errorf("changed: %s", got)
	}
	j.Back(0)
	j.Keep()
	expectLog(t, log, 5, 1, 0)
	if room[1] == nil || room[2] == nil {
		t.Error("the list was cleared")
	}
}

// No call panics: of a change that does those ahead of it are taken back, too.
func TestPanic(t *testing.T) {
	j := &undo.Journal{}
	var log []int
	var none *step
	j.Note(step{1, &log}, does(func() { panic("no") }), does(nil), none, step{2, &log})
	expectBack(t, j, 0, 5)
	expectLog(t, log, 2, 1)
	expectMark(t, j, 0)
}

// Back ends, and takes each back once, whatever changes do with the journal.
func TestBackWithin(t *testing.T) {
	j := &undo.Journal{}
	var log []int
	marks := []int{}
	var again does
	again = func() {
		marks = append(marks, j.Mark())
		j.Back(1)
		j.Note(again, step{9, &log})
	}
	j.Note(step{1, &log}, step{2, &log}, again, step{3, &log})
	expectBack(t, j, 1, 3)
	expectLog(t, log, 3, 2)
	if !slices.Equal(marks, []int{1}) {
		t.Errorf("marks: %v", marks)
	}
	expectMark(t, j, 3)
	j.Keep()
	j.Note(does(j.Keep), does(func() { j.Back(0) }), step{4, &log})
	expectBack(t, j, 0, 3)
	expectLog(t, log, 3, 2, 4)
}

// No call panics of a journal that was copied.
func TestCopiedJournal(t *testing.T) {
	var j undo.Journal
	var log []int
	j.Note(steps(&log, 0, 3)...)
	k := j
	j.Keep()
	k.Back(0)
	k.Keep()
	expectMark(t, &k, 0)
}
