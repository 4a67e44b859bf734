package schema_test

import (
	"math"
	"slices"
	"strconv"
	"strings"
	"testing"

	"afflux/api"
	"afflux/schema"
)

// good is a schema of all kinds, with unique indexes and others; it is made
// anew each time, so that a test may spoil it.
func good() api.Schema {
	return api.Schema{
		Name: "t",
		Cols: []api.Column{{Name: "a", Kind: api.KInt}, {Name: "b", Kind: api.KText}, {Name: "c", Kind: api.KBool}},
		Indexes: []api.Index{
			{Cols: []int{0}, Unique: true},
			{Cols: []int{1}},
			{Cols: []int{1, 0}, Unique: true},
			{Cols: []int{2, 1}},
		},
		Limit: 10,
		Parts: 4,
		By:    0,
	}
}

// changed are schemas that differ from good in one thing each; these are right
// as it is.
func changed() []api.Schema {
	return spoilt(
		func(s *api.Schema) { s.Name = "u" },
		func(s *api.Schema) { s.Name = "a23456789_123456" },
		func(s *api.Schema) { s.Name = "a" },
		func(s *api.Schema) { s.Cols[1].Name = "b2" },
		func(s *api.Schema) { s.Cols[1].Name = "t" },
		func(s *api.Schema) { s.Cols[0].Kind = api.KText },
		func(s *api.Schema) { s.Cols[2].Kind = api.KInt },
		func(s *api.Schema) { s.Cols = append(s.Cols, api.Column{Name: "d", Kind: api.KInt}) },
		func(s *api.Schema) { *s = wide(8) },
		func(s *api.Schema) { s.Indexes = s.Indexes[:3] },
		func(s *api.Schema) { s.Indexes = s.Indexes[:1] },
		func(s *api.Schema) { s.Indexes[1].Unique = true },
		func(s *api.Schema) { s.Indexes[2].Unique = false },
		func(s *api.Schema) { s.Indexes[1].Cols = []int{2} },
		func(s *api.Schema) { s.Indexes[3].Cols = []int{1, 2} },
		func(s *api.Schema) { s.Indexes[0].Cols = []int{2, 0, 1} },
		func(s *api.Schema) { s.Limit = 1 },
		func(s *api.Schema) { s.Limit = 1000 },
		func(s *api.Schema) { s.Parts = 1 },
		func(s *api.Schema) { s.Parts = 8 },
		func(s *api.Schema) { s.By = 1 },
		func(s *api.Schema) { s.By = 2 },
	)
}

// wrongs are schemas that aren't right, one fault each.
func wrongs() []api.Schema {
	var out []api.Schema
	for _, name := range notNames() {
		out = append(out, spoilt(
			func(s *api.Schema) { s.Name = name },
			func(s *api.Schema) { s.Cols[1].Name = name },
		)...)
	}
	for _, kind := range []int{math.MinInt, -1, 0, 4, 257, math.MaxInt} {
		out = append(out, spoilt(func(s *api.Schema) { s.Cols[2].Kind = kind })...)
	}
	for _, place := range []int{math.MinInt, -1, 3, 8, math.MaxInt} {
		out = append(out, spoilt(
			func(s *api.Schema) { s.Indexes[0].Cols[0] = place },
			func(s *api.Schema) { s.Indexes[3].Cols[1] = place },
			func(s *api.Schema) { s.By = place },
		)...)
	}
	for _, n := range []int{math.MinInt, -1, 0, 1001, math.MaxInt} {
		out = append(out, spoilt(func(s *api.Schema) { s.Limit = n })...)
	}
	for _, n := range []int{math.MinInt, -1, 0, 9, math.MaxInt} {
		out = append(out, spoilt(func(s *api.Schema) { s.Parts = n })...)
	}
	return append(out, spoilt(
		func(s *api.Schema) { *s = api.Schema{} },
		func(s *api.Schema) { s.Cols = nil },
		func(s *api.Schema) { *s = wide(9) },
		func(s *api.Schema) { s.Cols[2].Name = "a" },
		func(s *api.Schema) { s.Cols[1] = s.Cols[0] },
		func(s *api.Schema) { s.Indexes = nil },
		func(s *api.Schema) { s.Indexes = append(s.Indexes, api.Index{Cols: []int{2}}) },
		func(s *api.Schema) { s.Indexes[0].Unique = false },
		func(s *api.Schema) { s.Indexes[0].Cols = nil },
		func(s *api.Schema) { s.Indexes[3].Cols = []int{} },
		func(s *api.Schema) { s.Indexes[3].Cols = []int{1, 1} },
		func(s *api.Schema) { s.Indexes[3].Cols = []int{0, 1, 2, 0} },
		func(s *api.Schema) { s.Indexes[3].Cols = []int{0, 1, 2, 0, 1, 2, 0, 1, 2} },
		func(s *api.Schema) { s.Indexes[1].Cols = []int{0} },
		func(s *api.Schema) { s.Indexes[3] = s.Indexes[1] },
		func(s *api.Schema) { s.Indexes[3] = api.Index{Cols: []int{1, 0}, Unique: true} },
		func(s *api.Schema) { s.Indexes[3] = api.Index{Cols: []int{1, 0}} },
	)...)
}

func spoilt(l ...func(s *api.Schema)) []api.Schema {
	var out []api.Schema
	for _, change := range l {
		s := good()
		change(&s)
		out = append(out, s)
	}
	return out
}

// wide has so many columns, with an index of them all.
func wide(cols int) api.Schema {
	s := api.Schema{Name: "wide", Indexes: []api.Index{{Unique: true}}, Limit: 1, Parts: 1, By: cols - 1}
	for i := range cols {
		s.Cols = append(s.Cols, api.Column{Name: "c" + strconv.Itoa(i), Kind: 1 + i%3})
		if i < api.MaxCols {
			s.Indexes[0].Cols = append(s.Indexes[0].Cols, i)
		}
	}
	return s
}

func names() []string {
	return []string{"a", "z", "m", "a0", "z9", "a_", "a__", "abcdefghijklmnop", "qrstuvwxyz012345", "x678", "a_______________", "true", "for"}
}

func notNames() []string {
	return []string{
		"", "0", "9a", "_", "_a", "A", "Z", "aB", "aZ", "a-b", "a b", " a", "a ", "a.b", "a'", "a\x00", "\x00", "a\n",
		"`", "{", "a`", "a{", "a/", "a:", "a@", "a[", "a^", "/", ":", "é", "aé", "ä", "a\xff", "\xff",
		"abcdefghijklmnopq", "a________________", strings.Repeat("a", 1000),
	}
}

// P3.1.
func TestNamed(t *testing.T) {
	if !schema.Named() || !schema.Named(names()...) {
		t.Error("not all are names")
	}
	for _, s := range names() {
		if !schema.Named(s) {
			t.Errorf("Named(%q): false", s)
		}
	}
	for _, s := range notNames() {
		if schema.Named(s) || schema.Named("a", s) || schema.Named(s, "a") {
			t.Errorf("Named(%q): true", s)
		}
	}
}

// P3.1: which bytes may stand first, and which behind.
func TestNamedBytes(t *testing.T) {
	const first = "abcdefghijklmnopqrstuvwxyz"
	const later = first + "0123456789_"
	for i := range 256 {
		s := string([]byte{byte(i)})
		if schema.Named(s) != strings.Contains(first, s) {
			t.Errorf("Named(%q): %t", s, schema.Named(s))
		}
		if schema.Named("a"+s+"b") != strings.Contains(later, s) {
			t.Errorf("Named(%q): %t", "a"+s+"b", schema.Named("a"+s+"b"))
		}
	}
}

// P3.1.
func TestRight(t *testing.T) {
	for _, s := range append(changed(), good(), wide(1), wide(8)) {
		if !schema.Right(s) {
			t.Errorf("%v isn't right", s)
		}
	}
	for _, s := range wrongs() {
		if schema.Right(s) {
			t.Errorf("%v is right", s)
		}
	}
}

// P3.1: lists that are far too long are told soon, though nothing else is wrong
// with them.
func TestRightOfLong(t *testing.T) {
	const many = 1 << 17
	indexes := wide(8)
	for i := range many {
		x := api.Index{Cols: []int{0, 1, 2, 3, 4, 5, 6, 7}}
		for j := range x.Cols {
			k := j + i%(8-j)
			x.Cols[j], x.Cols[k] = x.Cols[k], x.Cols[j]
		}
		indexes.Indexes = append(indexes.Indexes, x)
	}
	places := wide(8)
	places.Indexes[0].Cols = make([]int, many)
	for _, s := range []api.Schema{wide(many), indexes, places} {
		if schema.Right(s) {
			t.Error("a schema with a long list is right")
		}
	}
}

// P3.1.
func TestCol(t *testing.T) {
	twice := api.Schema{Cols: []api.Column{{Name: "b"}, {Name: "a"}, {Name: "a", Kind: 1}, {}, {Name: "B"}}}
	for _, c := range []struct {
		s    api.Schema
		name string
		want int
	}{
		{good(), "a", 0}, {good(), "b", 1}, {good(), "c", 2}, {good(), "d", -1}, {good(), "", -1}, {good(), "t", -1}, {good(), "A", -1}, {good(), "aa", -1},
		{twice, "a", 1}, {twice, "b", 0}, {twice, "", 3}, {twice, "B", 4},
		{api.Schema{}, "a", -1}, {api.Schema{}, "", -1},
	} {
		if got := schema.Col(c.s, c.name); got != c.want {
			t.Errorf("Col(%v, %q): %d; want %d", c.s, c.name, got, c.want)
		}
	}
}

// differing are schemas of which no two are the same, right ones and others.
func differing() []api.Schema {
	return append(append(changed(), good()), spoilt(
		func(s *api.Schema) { *s = api.Schema{} },
		func(s *api.Schema) { s.Name = "" },
		func(s *api.Schema) { s.Cols = nil },
		func(s *api.Schema) { s.Cols[0], s.Cols[1] = s.Cols[1], s.Cols[0] },
		func(s *api.Schema) { s.Cols[0].Kind = 9 },
		func(s *api.Schema) { s.Indexes = nil },
		func(s *api.Schema) { s.Indexes[0].Unique = false },
		func(s *api.Schema) { s.Indexes[0].Cols = nil },
		func(s *api.Schema) { s.Indexes[1], s.Indexes[2] = s.Indexes[2], s.Indexes[1] },
		func(s *api.Schema) { s.Indexes[2].Cols = []int{0, 1} },
		func(s *api.Schema) { s.Indexes[2].Cols = []int{1, 0, 2} },
		func(s *api.Schema) { s.Limit = -1 },
		func(s *api.Schema) { s.Parts = 0 },
		func(s *api.Schema) { s.By = -1 },
	)...)
}

// P3.1.
func TestSame(t *testing.T) {
	all, again := differing(), differing()
	for i, a := range all {
		for j, b := range again {
			if schema.Same(a, b) != (i == j) {
				t.Errorf("Same(%v, %v): %t", a, b, i != j)
			}
		}
	}
}

// P3.1: nil and empty lists are one.
func TestSameOfEmpty(t *testing.T) {
	a := api.Schema{Indexes: []api.Index{{}}}
	b := api.Schema{Cols: []api.Column{}, Indexes: []api.Index{{Cols: []int{}}}}
	if !schema.Same(a, b) || !schema.Same(b, a) || !schema.Same(api.Schema{}, api.Schema{Cols: []api.Column{}, Indexes: []api.Index{}}) {
		t.Error("nil and empty lists aren't one")
	}
}

// P3.1.
func TestCopy(t *testing.T) {
	for i, s := range differing() {
		c := schema.Copy(s)
		if !schema.Same(c, s) {
			t.Errorf("Copy(%v): %v", s, c)
		}
		ruin(&c)
		if !schema.Same(s, differing()[i]) {
			t.Errorf("the copy of %v shares its memory", s)
		}
	}
}

// P3.1: a copy's lists share nothing among themselves, nor what room they have
// to spare.
func TestCopyAlone(t *testing.T) {
	s := good()
	places := []int{0, 1, 2, 7}
	s.Indexes[0].Cols, s.Indexes[2].Cols = places[:1], places[:2]
	s.Cols = slices.Grow(s.Cols, 5)
	s.Indexes = slices.Grow(s.Indexes, 5)
	c := schema.Copy(s)
	c.Indexes[0].Cols[0] = 2
	c.Indexes[0].Cols = append(c.Indexes[0].Cols, 9)
	c.Cols = append(c.Cols, api.Column{Name: "z", Kind: 1})
	c.Indexes = append(c.Indexes, api.Index{Unique: true})
	if !slices.Equal(c.Indexes[2].Cols, []int{0, 1}) || !slices.Equal(places, []int{0, 1, 2, 7}) {
		t.Errorf("%v, %v", c.Indexes[2].Cols, places)
	}
	if s.Cols[:4][3] != (api.Column{}) || s.Indexes[:5][4].Unique {
		t.Error("the room to spare is shared")
	}
}

func ruin(s *api.Schema) {
	s.Name, s.Limit, s.Parts, s.By = "ruin", -7, -7, -7
	for i := range s.Cols {
		s.Cols[i] = api.Column{Name: "ruin", Kind: -7}
	}
	for i, x := range s.Indexes {
		for j := range x.Cols {
			x.Cols[j] = -7
		}
		s.Indexes[i] = api.Index{}
	}
}
