package schema_test

import (
	"cmp"
	"math"
	"slices"
	"strings"
	"testing"

	"afflux/api"
	"afflux/schema"
	"afflux/value"
)

func row(n int64, s string, b bool) []api.Value {
	return []api.Value{value.Int(n), value.Text(s), value.Bool(b)}
}

// rows fit good.
func rows() [][]api.Value {
	var out [][]api.Value
	for _, n := range []int64{math.MinInt64, -1, 0, 1, 2, math.MaxInt64} {
		for _, s := range []string{"", "\x00", "\x00\xff", "\x00\x01", "a", "a\x00", "aa", "b", strings.Repeat("z", 200)} {
			out = append(out, row(n, s, false), row(n, s, true))
		}
	}
	return out
}

// misfits don't fit good.
func misfits() [][]api.Value {
	one, x, yes := value.Int(1), value.Text("x"), value.Bool(true)
	return [][]api.Value{
		nil, {one}, {one, x}, {one, x, yes, yes}, {one, x, yes, {}}, {x, yes},
		{x, x, yes}, {one, one, yes}, {one, x, x}, {one, x, one}, {yes, x, one}, {yes, x, yes}, {x, one, yes},
		{{}, x, yes}, {one, {}, yes}, {one, x, {}},
		{{Kind: api.KInt, N: 1, S: "s"}, x, yes},
		{one, {Kind: api.KText, N: 1, S: "s"}, yes}, {one, value.Text(strings.Repeat("a", 201)), yes},
		{one, x, {Kind: api.KBool, N: 2}}, {one, x, {Kind: api.KBool, N: 1, S: "s"}},
		{{Kind: 4}, x, yes}, {one, x, {Kind: -1}},
	}
}

// P3.1.
func TestZero(t *testing.T) {
	for _, c := range []struct {
		kinds []int
		want  []api.Value
	}{
		{nil, nil},
		{[]int{1, 2, 3}, row(0, "", false)},
		{[]int{3, 3, 1}, []api.Value{value.Bool(false), value.Bool(false), value.Int(0)}},
		{[]int{0, 2, 4, -1, math.MaxInt, math.MinInt}, []api.Value{{}, value.Text(""), {}, {}, {}, {}}},
	} {
		var s api.Schema
		for _, k := range c.kinds {
			s.Cols = append(s.Cols, api.Column{Name: "a", Kind: k})
		}
		if got := schema.Zero(s); !slices.Equal(got, c.want) {
			t.Errorf("Zero of %v: %v", c.kinds, got)
		}
	}
	for _, s := range append(changed(), good()) {
		if !schema.Fits(s, schema.Zero(s)...) {
			t.Errorf("Zero(%v) doesn't fit", s)
		}
	}
}

// P3.2.
func TestFits(t *testing.T) {
	for _, r := range rows() {
		if !schema.Fits(good(), r...) {
			t.Errorf("%v doesn't fit", r)
		}
	}
	for _, r := range misfits() {
		if schema.Fits(good(), r...) {
			t.Errorf("%v fits", r)
		}
	}
}

// P3.2: no row fits a schema that isn't right.
func TestFitsOfWrong(t *testing.T) {
	for _, s := range wrongs() {
		for _, r := range [][]api.Value{nil, row(1, "x", true), schema.Zero(s)} {
			if schema.Fits(s, r...) {
				t.Errorf("%v fits %v", r, s)
			}
		}
	}
}

// P3.2.
func TestPick(t *testing.T) {
	r := row(1, "x", true)
	wrong := []api.Value{{Kind: 9}, {}}
	for _, c := range []struct {
		row    []api.Value
		places []int
		want   []api.Value
	}{
		{r, nil, nil},
		{r, []int{0, 1, 2}, r},
		{r, []int{1}, r[1:2]},
		{r, []int{2, 0}, []api.Value{r[2], r[0]}},
		{r, []int{1, 1, 1, 1, 1, 1, 1, 1, 1, 1}, slices.Repeat(r[1:2], 10)},
		{wrong, []int{1, 0}, []api.Value{{}, {Kind: 9}}},
		{r, []int{3}, nil}, {r, []int{-1}, nil}, {r, []int{0, 3}, nil}, {r, []int{0, -1, 1}, nil}, {r, []int{3, 0}, nil},
		{r, []int{0, math.MaxInt}, nil}, {r, []int{0, math.MinInt}, nil},
		{nil, nil, nil}, {nil, []int{0}, nil},
		{append(row(1, "x", true), value.Int(1))[:3], []int{3}, nil},
	} {
		if got := schema.Pick(c.row, c.places...); !slices.Equal(got, c.want) {
			t.Errorf("Pick(%v, %v): %v", c.row, c.places, got)
		}
	}
}

// What is answered is new memory.
func TestPickIsNew(t *testing.T) {
	r := row(1, "x", true)
	got := schema.Pick(r, 0, 1, 2)
	got[0] = value.Int(9)
	if r[0] != value.Int(1) {
		t.Error("Pick shares the row's memory")
	}
}

// P3.3: keys, byte by byte.
func TestKey(t *testing.T) {
	const one, x, yes = "\x01\x80\x00\x00\x00\x00\x00\x00\x01", "\x02x\x00\x01", "\x03\x01"
	r := row(1, "x", true)
	want := []string{one, x + one, x + one, yes + x + one}
	for i, w := range want {
		if k, e := schema.Key(good(), i, r...); k != w || e != api.OK {
			t.Errorf("Key by %d: %x, %d; want %x", i, k, e, w)
		}
	}
	if l, e := schema.Keys(good(), r...); !slices.Equal(l, want) || e != api.OK {
		t.Errorf("Keys: %x, %d", l, e)
	}
}

// P3.3: a first index of several columns, and others that have all of them.
func TestKeyByMany(t *testing.T) {
	s := good()
	s.Indexes = []api.Index{{Cols: []int{2, 0}, Unique: true}, {Cols: []int{1}}, {Cols: []int{0, 1, 2}}, {Cols: []int{0, 2}, Unique: true}}
	for _, r := range rows() {
		first := value.Key(r[2], r[0])
		want := []string{first, value.Key(r[1]) + first, value.Key(r...) + first, value.Key(r[0], r[2])}
		for i, w := range want {
			if k, e := schema.Key(s, i, r...); k != w || e != api.OK {
				t.Errorf("Key of %v by %d: %x, %d; want %x", r, i, k, e, w)
			}
		}
		if l, e := schema.Keys(s, r...); !slices.Equal(l, want) || e != api.OK {
			t.Errorf("Keys of %v: %x, %d", r, l, e)
		}
	}
}

// P3.3.
func TestPart(t *testing.T) {
	for _, c := range []struct {
		row             []api.Value
		by, parts, want int
	}{
		{row(1, "x", true), 0, 4, 1}, {row(-1, "x", true), 0, 4, 3}, {row(8, "x", true), 0, 8, 0}, {row(math.MinInt64, "", false), 0, 7, 6},
		{row(1, "ab", true), 1, 8, 5}, {row(1, "", true), 1, 8, 0}, {row(1, "b", true), 1, 5, 3},
		{row(2, "ab", true), 2, 8, 1}, {row(2, "ab", false), 2, 8, 0}, {row(2, "ab", true), 2, 1, 0}, {row(5, "ab", true), 0, 1, 0},
	} {
		s := good()
		s.By, s.Parts = c.by, c.parts
		if n, e := schema.Part(s, c.row...); n != c.want || e != api.OK {
			t.Errorf("Part of %v by %d of %d: %d, %d; want %d", c.row, c.by, c.parts, n, e, c.want)
		}
	}
	for _, s := range changed() {
		zero := schema.Zero(s)
		if n, e := schema.Part(s, zero...); n != value.Spread(zero[s.By], s.Parts) || e != api.OK {
			t.Errorf("Part of %v: %d, %d", s, n, e)
		}
	}
}

func expectError(t *testing.T, s api.Schema, index int, r []api.Value, want api.Errno) {
	t.Helper()
	if k, e := schema.Key(s, index, r...); k != "" || e != want {
		t.Errorf("Key of %v by %d, %v: %x, %d; want %d", s, index, r, k, e, want)
	}
	if l, e := schema.Keys(s, r...); len(l) != 0 || e != want {
		t.Errorf("Keys of %v, %v: %x, %d; want %d", s, r, l, e, want)
	}
	if n, e := schema.Part(s, r...); n != 0 || e != want {
		t.Errorf("Part of %v, %v: %d, %d; want %d", s, r, n, e, want)
	}
}

// P3.3: of several errors the first one.
func TestErrors(t *testing.T) {
	fitting := row(1, "x", true)
	for _, s := range wrongs() {
		for _, r := range [][]api.Value{nil, fitting, schema.Zero(s), misfits()[1]} {
			expectError(t, s, 0, r, api.ErrArg)
		}
	}
	for _, r := range misfits() {
		for i := range good().Indexes {
			expectError(t, good(), i, r, api.ErrType)
		}
	}
	for _, index := range []int{math.MinInt, -1, 4, 5, math.MaxInt} {
		for _, r := range [][]api.Value{nil, fitting, misfits()[1]} {
			if k, e := schema.Key(good(), index, r...); k != "" || e != api.ErrArg {
				t.Errorf("Key by %d: %x, %d", index, k, e)
			}
		}
	}
}

// stand is how two rows stand by an index of good, told by their values.
func stand(a, b []api.Value, x api.Index) int {
	c := value.Rows(schema.Pick(a, x.Cols...), schema.Pick(b, x.Cols...))
	if x.Unique {
		return c
	}
	first := good().Indexes[0].Cols
	return cmp.Or(c, value.Rows(schema.Pick(a, first...), schema.Pick(b, first...)))
}

// P3.4.
func TestKeysStandAsValues(t *testing.T) {
	for i, x := range good().Indexes {
		for _, a := range rows() {
			for _, b := range rows() {
				ka, _ := schema.Key(good(), i, a...)
				kb, _ := schema.Key(good(), i, b...)
				if got := cmp.Compare(ka, kb); got != stand(a, b, x) {
					t.Errorf("the keys of %v and %v by %d: %d", a, b, i, got)
				}
			}
		}
	}
}

// What is handed in stays, its spare room, too.
func TestHandedInStays(t *testing.T) {
	s := good()
	r := append(row(1, "x", true), value.Int(7))[:3]
	schema.Right(s)
	schema.Zero(s)
	schema.Copy(s)
	schema.Fits(s, r...)
	schema.Pick(r, 2, 1)
	schema.Key(s, 1, r...)
	schema.Keys(s, r...)
	schema.Part(s, r...)
	if !schema.Same(s, good()) || !slices.Equal(r[:4], append(row(1, "x", true), value.Int(7))) {
		t.Errorf("%v, %v", s, r[:4])
	}
}
