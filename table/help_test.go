package table_test

import (
	"fmt"
	"math"
	"slices"
	"testing"

	"afflux/api"
	"afflux/schema"
	"afflux/table"
	"afflux/value"
)

// good is a schema of all kinds, with unique indexes and others; it is made anew
// each time, so that a test may spoil it.
func good() api.Schema {
	return api.Schema{
		Name: "t",
		Cols: []api.Column{{Name: "a", Kind: api.KInt}, {Name: "b", Kind: api.KText}, {Name: "c", Kind: api.KBool}},
		Indexes: []api.Index{
			{Cols: []int{0}, Unique: true},
			{Cols: []int{1}},
			{Cols: []int{1, 0}, Unique: true},
			{Cols: []int{2, 1}},
		},
		Limit: 10,
		Parts: 4,
		By:    0,
	}
}

// pairs has a key of two columns, and a further one that no two rows may have.
func pairs() api.Schema {
	return api.Schema{
		Name: "pairs",
		Cols: []api.Column{{Name: "a", Kind: api.KInt}, {Name: "b", Kind: api.KText}, {Name: "c", Kind: api.KInt}},
		Indexes: []api.Index{
			{Cols: []int{1, 0}, Unique: true},
			{Cols: []int{2}, Unique: true},
			{Cols: []int{0}},
		},
		Limit: 40,
		Parts: 3,
		By:    1,
	}
}

// wrongs are schemas that aren't right, one fault each.
func wrongs() []api.Schema {
	var out []api.Schema
	for _, spoil := range []func(s *api.Schema){
		func(s *api.Schema) { *s = api.Schema{} },
		func(s *api.Schema) { s.Name = "" },
		func(s *api.Schema) { s.Name = "T" },
		func(s *api.Schema) { s.Name = "a2345678901234567" },
		func(s *api.Schema) { s.Cols = nil },
		func(s *api.Schema) { s.Cols[1].Name = "a" },
		func(s *api.Schema) { s.Cols[1].Kind = 0 },
		func(s *api.Schema) { s.Cols[1].Kind = 4 },
		func(s *api.Schema) { s.Indexes = nil },
		func(s *api.Schema) { s.Indexes[0].Unique = false },
		func(s *api.Schema) { s.Indexes[1].Cols = nil },
		func(s *api.Schema) { s.Indexes[1].Cols = []int{3} },
		func(s *api.Schema) { s.Indexes[1].Cols = []int{-1} },
		func(s *api.Schema) { s.Indexes[1].Cols = []int{0} },
		func(s *api.Schema) { s.Indexes[3].Cols = []int{1, 1} },
		func(s *api.Schema) { s.Indexes = append(s.Indexes, api.Index{Cols: []int{2}}) },
		func(s *api.Schema) { s.Limit = 0 },
		func(s *api.Schema) { s.Limit = 1001 },
		func(s *api.Schema) { s.Parts = 0 },
		func(s *api.Schema) { s.Parts = 9 },
		func(s *api.Schema) { s.By = -1 },
		func(s *api.Schema) { s.By = 3 },
	} {
		s := good()
		spoil(&s)
		out = append(out, s)
	}
	return out
}

func row(n int64, s string, b bool) []api.Value {
	return []api.Value{value.Int(n), value.Text(s), value.Bool(b)}
}

func pair(a int64, b string, c int64) []api.Value {
	return []api.Value{value.Int(a), value.Text(b), value.Int(c)}
}

// misfits don't fit good.
func misfits() [][]api.Value {
	one, x, yes := value.Int(1), value.Text("x"), value.Bool(true)
	return [][]api.Value{
		nil, {one}, {one, x}, {one, x, yes, yes}, {one, x, yes, {}},
		{x, x, yes}, {one, one, yes}, {one, x, one}, {x, one, yes},
		{{}, x, yes}, {one, {}, yes}, {one, x, {}},
		{{Kind: api.KInt, N: 1, S: "s"}, x, yes},
		{one, {Kind: api.KText, N: 1, S: "s"}, yes},
		{one, {Kind: api.KText, S: fmt.Sprintf("%201d", 1)}, yes},
		{one, x, {Kind: api.KBool, N: 2}},
		{{Kind: 4}, x, yes},
	}
}

// both are a table, and the rows that it must have, in the order of their keys.
type both struct {
	*table.Table
	s    api.Schema
	want [][]api.Value
}

func empty(t *testing.T, s api.Schema) *both {
	t.Helper()
	x, e := table.New(s)
	if e != api.OK || x == nil {
		t.Fatalf("New: %v, %d", x, e)
	}
	return &both{Table: x, s: s}
}

// filled is a table of good into which these rows were put.
func filled(t *testing.T, rows ...[]api.Value) *both {
	t.Helper()
	b := empty(t, good())
	for _, r := range rows {
		b.insert(t, r)
	}
	b.check(t)
	return b
}

// numbered are rows of good from one number to behind another one.
func numbered(from, to int) [][]api.Value {
	var out [][]api.Value
	for i := from; i < to; i++ {
		out = append(out, row(int64(i), fmt.Sprint("t", i%3), i%2 == 0))
	}
	return out
}

// key is that of a row that fits, worked out from its values.
func (b *both) key(index int, r []api.Value) string {
	x := b.s.Indexes[index]
	k := value.Key(schema.Pick(r, x.Cols...)...)
	if !x.Unique {
		k += b.key(0, r)
	}
	return k
}

// clash tells whether two rows have the same in a unique index.
func (b *both) clash(p, q []api.Value) bool {
	for _, x := range b.s.Indexes {
		if x.Unique && slices.Equal(schema.Pick(p, x.Cols...), schema.Pick(q, x.Cols...)) {
			return true
		}
	}
	return false
}

// place is where the row of a key stands; -1, if it stands nowhere.
func (b *both) place(key string) int {
	return slices.IndexFunc(b.want, func(r []api.Value) bool { return b.key(0, r) == key })
}

// clashes tells whether a row clashes with one that stands elsewhere.
func (b *both) clashes(r []api.Value, elsewhere int) bool {
	for i, other := range b.want {
		if i != elsewhere && b.clash(r, other) {
			return true
		}
	}
	return false
}

// lay lets a row stand where it must.
func (b *both) lay(r []api.Value) {
	b.want = append(b.want, slices.Clone(r))
	slices.SortFunc(b.want, func(p, q []api.Value) int {
		return value.Rows(schema.Pick(p, b.s.Indexes[0].Cols...), schema.Pick(q, b.s.Indexes[0].Cols...))
	})
}

func expect(t *testing.T, what string, r []api.Value, got, want api.Errno) {
	t.Helper()
	if got != want {
		t.Errorf("%s %s: %d; want %d", what, value.Line(r...), got, want)
	}
}

func (b *both) insert(t *testing.T, r []api.Value) {
	t.Helper()
	want := api.OK
	switch {
	case !schema.Fits(b.s, r...):
		want = api.ErrType
	case b.clashes(r, -1):
		want = api.ErrTwice
	case len(b.want) == b.s.Limit:
		want = api.ErrLimit
	default:
		b.lay(r)
	}
	expect(t, "Insert", r, b.Insert(r...), want)
}

func (b *both) update(t *testing.T, key string, r []api.Value) {
	t.Helper()
	want := api.OK
	i := b.place(key)
	switch {
	case i < 0:
		want = api.ErrNone
	case !schema.Fits(b.s, r...):
		want = api.ErrType
	case b.clashes(r, i):
		want = api.ErrTwice
	default:
		b.want = slices.Delete(b.want, i, i+1)
		b.lay(r)
	}
	expect(t, "Update", r, b.Update(key, r...), want)
}

func (b *both) drop(t *testing.T, key string) {
	t.Helper()
	want := api.OK
	i := b.place(key)
	if i < 0 {
		want = api.ErrNone
	} else {
		b.want = slices.Delete(b.want, i, i+1)
	}
	expect(t, "Delete "+key, nil, b.Delete(key), want)
}

// in are some rows that are in one of some partitions.
func (b *both) in(rows [][]api.Value, parts ...int) [][]api.Value {
	var out [][]api.Value
	for _, r := range rows {
		if len(parts) == 0 || slices.Contains(parts, value.Spread(r[b.s.By], b.s.Parts)) {
			out = append(out, r)
		}
	}
	return out
}

// by are the rows that it must have in the order by an index.
func (b *both) by(index int) [][]api.Value {
	out := slices.Clone(b.want)
	cols := b.s.Indexes[index].Cols
	// What is the same there stays in the order of the keys.
	slices.SortStableFunc(out, func(p, q []api.Value) int {
		return value.Rows(schema.Pick(p, cols...), schema.Pick(q, cols...))
	})
	return out
}

func same(a, b [][]api.Value) bool {
	return slices.EqualFunc(a, b, slices.Equal)
}

func lines(rows [][]api.Value) string {
	out := ""
	for _, r := range rows {
		out += "(" + value.Line(r...) + ")"
	}
	return out
}

// someParts are choices of partitions, of such that aren't there among them.
func (b *both) someParts() [][]int {
	out := [][]int{nil, {}, {-1}, {b.s.Parts}, {math.MinInt, math.MaxInt}, {0, 0}, {0, -1}}
	for i := range b.s.Parts {
		out = append(out, []int{i}, []int{i, (i + 1) % b.s.Parts}, []int{b.s.Parts, i, i})
	}
	return out
}

// check: it has what it must have, by all indexes and in all partitions.
func (b *both) check(t *testing.T) {
	t.Helper()
	if b.Len() != len(b.want) {
		t.Errorf("Len: %d; want %d", b.Len(), len(b.want))
	}
	for _, r := range b.want {
		if got, ok := b.Get(b.key(0, r)); !ok || !slices.Equal(got, r) {
			t.Errorf("Get of %s: %v, %t", value.Line(r...), got, ok)
		}
	}
	for i := range b.s.Indexes {
		if got := b.Scan(i, "", "", math.MaxInt); !same(got, b.by(i)) {
			t.Errorf("Scan by %d: %s; want %s", i, lines(got), lines(b.by(i)))
		}
	}
	for _, parts := range b.someParts() {
		b.checkParts(t, parts)
	}
	if t.Failed() {
		t.FailNow()
	}
}

// checkParts: some partitions have what they must have.
func (b *both) checkParts(t *testing.T, parts []int) {
	t.Helper()
	want := b.in(b.want, parts...)
	if got := b.Rows(parts...); !same(got, want) {
		t.Errorf("Rows(%v): %s; want %s", parts, lines(got), lines(want))
	}
	if n := b.In(parts...); n != len(want) {
		t.Errorf("In(%v): %d; want %d", parts, n, len(want))
	}
	for i := range b.s.Indexes {
		b.checkWalk(t, i, parts)
	}
}

// checkWalk: from the first one on, each next one is told, with its key.
func (b *both) checkWalk(t *testing.T, index int, parts []int) {
	t.Helper()
	k, r, ok := b.First(index, parts...)
	for _, want := range b.in(b.by(index), parts...) {
		if k != b.key(index, want) || !slices.Equal(r, want) || !ok {
			t.Errorf("by %d in %v: %x, %v, %t; want %s", index, parts, k, r, ok, value.Line(want...))
			return
		}
		k, r, ok = b.Next(index, k, parts...)
	}
	expectNone(t, fmt.Sprintf("by %d in %v", index, parts), k, r, ok)
}

func expectNone(t *testing.T, what, k string, r []api.Value, ok bool) {
	t.Helper()
	if k != "" || len(r) != 0 || ok {
		t.Errorf("%s: %x, %v, %t; want none", what, k, r, ok)
	}
}
