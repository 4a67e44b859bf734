package undo_test

import (
	"fmt"
	"math"
	"slices"
	"testing"

	"afflux/api"
	"afflux/table"
	"afflux/undo"
	"afflux/value"
)

// good is a schema with unique indexes and another one.
func good(name string) api.Schema {
	return api.Schema{
		Name: name,
		Cols: []api.Column{{Name: "a", Kind: api.KInt}, {Name: "b", Kind: api.KText}},
		Indexes: []api.Index{
			{Cols: []int{0}, Unique: true},
			{Cols: []int{1}},
			{Cols: []int{1, 0}, Unique: true},
		},
		Limit: 10,
		Parts: 2,
	}
}

func row(n int64, s string) []api.Value {
	return []api.Value{value.Int(n), value.Text(s)}
}

func key(n int64) string {
	return value.Key(value.Int(n))
}

// fresh is a table with these rows.
func fresh(t *testing.T, name string, rows ...[]api.Value) *table.Table {
	t.Helper()
	x, e := table.New(good(name))
	if e != api.OK || x.Load(rows...) != api.OK {
		t.Fatalf("New: %d", e)
	}
	return x
}

// tracked is a table with the rows 1 to 3, that a new journal tracks.
func tracked(t *testing.T) (*undo.Journal, *undo.Table) {
	t.Helper()
	j := &undo.Journal{}
	return j, undo.Track(j, fresh(t, "t", row(1, "x"), row(2, "y"), row(3, "x")))[0]
}

// tell is all that tables have, by all their indexes.
func tell(l ...*undo.Table) string {
	out := ""
	for _, t := range l {
		out += fmt.Sprintf("%d %x", t.Len(), t.Bytes())
		for i := range t.Schema().Indexes {
			for k, r, ok := t.First(i); ok; k, r, ok = t.Next(i, k) {
				out += fmt.Sprintf("; %x %s", k, value.Line(r...))
			}
			out += fmt.Sprint("; ", t.Scan(i, "", "", math.MaxInt))
		}
	}
	return out
}

// expectKeys: a table has the rows of these numbers, and no others.
func expectKeys(t *testing.T, x *undo.Table, want ...int64) {
	t.Helper()
	var got []int64
	for _, r := range x.Rows() {
		got = append(got, r[0].N)
	}
	if !slices.Equal(got, want) {
		t.Errorf("it has %v; want %v", got, want)
	}
}

func expect(t *testing.T, what string, got, want api.Errno) {
	t.Helper()
	if got != want {
		t.Errorf("%s: %d; want %d", what, got, want)
	}
}

func expectMark(t *testing.T, j *undo.Journal, want int) {
	t.Helper()
	if got := j.Mark(); got != want {
		t.Errorf("Mark: %d; want %d", got, want)
	}
}

func expectBack(t *testing.T, j *undo.Journal, mark, want int) {
	t.Helper()
	if got := j.Back(mark); got != want {
		t.Errorf("Back(%d): %d; want %d", mark, got, want)
	}
}

// step is a change of another kind: it tells into a log that it was taken back.
type step struct {
	name int
	log  *[]int
}

func (s step) Back() {
	*s.log = append(*s.log, s.name)
}

// steps are changes from one number to behind another one.
func steps(log *[]int, from, to int) []undo.Step {
	var out []undo.Step
	for i := from; i < to; i++ {
		out = append(out, step{i, log})
	}
	return out
}

// does is a change that does something when it is taken back.
type does func()

func (f does) Back() {
	f()
}
