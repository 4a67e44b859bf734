package table_test

import (
	"fmt"
	"math"
	"slices"
	"testing"

	"afflux/api"
	"afflux/codec"
	"afflux/table"
	"afflux/value"
)

// probes are keys by an index, of rows that are there and of such that aren't, and
// what stands close to them.
func (b *both) probes(index int) []string {
	out := []string{"", "\x00", "\xff"}
	for _, r := range b.want {
		k := b.key(index, r)
		out = append(out, k, k+"\x00", k[:len(k)-1], k[:len(k)-1]+"\xff")
	}
	return out
}

// between are the rows whose keys by an index are from one on, and below another.
func (b *both) between(index int, from, to string) [][]api.Value {
	var out [][]api.Value
	for _, r := range b.by(index) {
		if k := b.key(index, r); k >= from && (to == "" || k < to) {
			out = append(out, r)
		}
	}
	return out
}

// P9.3: from any key on, below any other one, at most so many.
func TestScan(t *testing.T) {
	for _, n := range []int{0, 1, 8} {
		b := filled(t, numbered(0, n)...)
		for i := range good().Indexes {
			for _, from := range b.probes(i) {
				for _, to := range b.probes(i) {
					b.checkScan(t, i, from, to)
				}
			}
		}
	}
}

func (b *both) checkScan(t *testing.T, index int, from, to string) {
	t.Helper()
	want := b.between(index, from, to)
	for _, most := range []int{math.MinInt, -1, 0, 1, 2, len(want) - 1, len(want), len(want) + 1, math.MaxInt} {
		some := want[:min(max(most, 0), len(want))]
		if got := b.Scan(index, from, to, most); !same(got, some) {
			t.Errorf("Scan(%d, %x, %x, %d): %s; want %s", index, from, to, most, lines(got), lines(some))
		}
	}
}

// P9.3: what stands behind any key, in any partitions.
func TestNext(t *testing.T) {
	for _, by := range []int{0, 1, 2} {
		s := good()
		s.By = by
		b := empty(t, s)
		for _, r := range numbered(-4, 5) {
			b.insert(t, r)
		}
		b.check(t)
		for i := range s.Indexes {
			for _, behind := range b.probes(i) {
				for _, parts := range b.someParts() {
					b.checkNext(t, i, behind, parts)
				}
			}
		}
	}
}

func (b *both) checkNext(t *testing.T, index int, behind string, parts []int) {
	t.Helper()
	what := fmt.Sprintf("Next(%d, %x, %v)", index, behind, parts)
	k, r, ok := b.Next(index, behind, parts...)
	for _, want := range b.in(b.by(index), parts...) {
		if at := b.key(index, want); at > behind {
			if k != at || !slices.Equal(r, want) || !ok {
				t.Errorf("%s: %x, %v, %t; want %s", what, k, r, ok, value.Line(want...))
			}
			return
		}
	}
	expectNone(t, what, k, r, ok)
}

// P9.3: rows in the order by an index that isn't unique stand, where they have the
// same there, in the order of their keys.
func TestOrderByOther(t *testing.T) {
	b := filled(t, row(3, "x", true), row(1, "y", false), row(2, "x", false), row(-1, "x", true))
	for _, c := range []struct {
		index int
		want  string
	}{
		{0, "(-1, 'x', true)(1, 'y', false)(2, 'x', false)(3, 'x', true)"},
		{1, "(-1, 'x', true)(2, 'x', false)(3, 'x', true)(1, 'y', false)"},
		{2, "(-1, 'x', true)(2, 'x', false)(3, 'x', true)(1, 'y', false)"},
		{3, "(2, 'x', false)(1, 'y', false)(-1, 'x', true)(3, 'x', true)"},
	} {
		if got := lines(b.Scan(c.index, "", "", 9)); got != c.want {
			t.Errorf("by %d: %s; want %s", c.index, got, c.want)
		}
	}
	if got := lines(b.Rows()); got != "(-1, 'x', true)(1, 'y', false)(2, 'x', false)(3, 'x', true)" {
		t.Errorf("Rows: %s", got)
	}
	if got := lines(b.Rows(3)); got != "(-1, 'x', true)(3, 'x', true)" || b.In(3) != 2 || b.In(3, 2) != 3 || b.In(0) != 0 {
		t.Errorf("in 3: %s", got)
	}
}

// P9.3: nothing without such an index.
func TestNoSuchIndex(t *testing.T) {
	b := filled(t, numbered(0, 5)...)
	for _, i := range []int{math.MinInt, -1, 4, 5, math.MaxInt} {
		if l := b.Scan(i, "", "", 9); len(l) != 0 {
			t.Errorf("Scan by %d: %s", i, lines(l))
		}
		k, r, ok := b.First(i)
		expectNone(t, "First", k, r, ok)
		k, r, ok = b.Next(i, "", 0, 1, 2, 3)
		expectNone(t, "Next", k, r, ok)
	}
}

// P9.4: all rows are taken away, and others inserted, in any order.
func TestLoad(t *testing.T) {
	b := filled(t, numbered(0, 10)...)
	for _, rows := range [][][]api.Value{numbered(5, 15), numbered(0, 1), nil, {row(3, "x", true), row(1, "x", true), row(2, "", false)}, numbered(0, 10)} {
		if e := b.Load(rows...); e != api.OK {
			t.Errorf("Load(%s): %d", lines(rows), e)
		}
		b.want = nil
		for _, r := range rows {
			b.lay(r)
		}
		b.check(t)
	}
	if e := b.Load(b.Rows()...); e != api.OK {
		t.Errorf("Load of its own rows: %d", e)
	}
	b.check(t)
}

// P9.4: the first error, and then the table is without rows.
func TestLoadErrors(t *testing.T) {
	misfit := []api.Value{value.Int(1)}
	for _, c := range []struct {
		rows [][]api.Value
		want api.Errno
	}{
		{[][]api.Value{misfit}, api.ErrType},
		{[][]api.Value{nil}, api.ErrType},
		{append(numbered(0, 3), misfit, row(0, "", true)), api.ErrType},
		{append(numbered(0, 3), row(0, "", true), misfit), api.ErrTwice},
		{append(numbered(0, 10), row(0, "", true)), api.ErrTwice},
		{numbered(0, 11), api.ErrLimit},
		{append(numbered(0, 11), misfit, row(0, "", true)), api.ErrLimit},
		{append(numbered(0, 10), misfit), api.ErrType},
	} {
		b := filled(t, numbered(2, 7)...)
		if e := b.Load(c.rows...); e != c.want {
			t.Errorf("Load(%s): %d; want %d", lines(c.rows), e, c.want)
		}
		b.want = nil
		b.check(t)
		b.insert(t, row(3, "x", true))
		b.check(t)
	}
}

// P9.4.
func TestBytes(t *testing.T) {
	b := filled(t)
	if got := b.Bytes(); got != "\x00" {
		t.Errorf("%x", got)
	}
	b.insert(t, row(300, "b", false))
	b.insert(t, row(-1, "", true))
	const want = "\x01\x02" +
		"\x01\x03\x01\x01\x01\x02\x00\x03\x01" +
		"\x01\x03\x01\x02\x02\x58\x02\x01\x01b\x03\x00"
	if got := b.Bytes(); got != want {
		t.Errorf("%x; want %x", got, want)
	}
	b = filled(t, numbered(-5, 5)...)
	r := codec.Read(b.Bytes())
	if got := r.Rows(10, 3); !same(got, b.want) || !r.End() {
		t.Errorf("%s", lines(got))
	}
}

// expectNothing: a table that there isn't, or that its maker didn't make.
func expectNothing(t *testing.T, x *table.Table) {
	t.Helper()
	r := row(1, "x", true)
	s := x.Schema()
	if s.Name != "" || len(s.Cols) != 0 || len(s.Indexes) != 0 || s.Limit != 0 || s.Parts != 0 || s.By != 0 {
		t.Errorf("Schema: %v", s)
	}
	if k, e := x.Key(r...); k != "" || e != api.ErrArg {
		t.Errorf("Key: %x, %d", k, e)
	}
	if got, ok := x.Get(value.Key(r[0])); len(got) != 0 || ok {
		t.Errorf("Get: %v, %t", got, ok)
	}
	expect(t, "Insert", r, x.Insert(r...), api.ErrArg)
	expect(t, "Insert", nil, x.Insert(), api.ErrArg)
	if l := x.Scan(0, "", "", 9); len(l) != 0 {
		t.Errorf("Scan: %v", l)
	}
	k, got, ok := x.First(0)
	expectNone(t, "First", k, got, ok)
	k, got, ok = x.Next(0, "", 0)
	expectNone(t, "Next", k, got, ok)
	if n := x.Len() + x.In() + x.In(0) + len(x.Rows()) + len(x.Rows(0)); n != 0 {
		t.Errorf("%d rows", n)
	}
	expect(t, "Load", r, x.Load(r), api.ErrArg)
	if got := x.Bytes(); got != "\x00" {
		t.Errorf("Bytes: %x", got)
	}
}

// P9.4.
func TestNil(t *testing.T) {
	var x *table.Table
	expectNothing(t, x)
	expect(t, "Update", nil, x.Update("", row(1, "x", true)...), api.ErrArg)
	expect(t, "Delete", nil, x.Delete(""), api.ErrArg)
	expect(t, "Load", nil, x.Load(), api.ErrArg)
}

// No call panics, of a table that its maker didn't make, too.
func TestZeroTable(t *testing.T) {
	x := &table.Table{}
	expectNothing(t, x)
	x.Update("", row(1, "x", true)...)
	x.Delete("")
	x.Load()
	expectNothing(t, x)
}
