package value_test

import (
	"cmp"
	"math"
	"math/big"
	"strings"
	"testing"

	"afflux/api"
	"afflux/value"
)

const (
	low  = math.MinInt64
	high = math.MaxInt64
)

// rights are right values, rising.
func rights() []api.Value {
	var out []api.Value
	for _, n := range []int64{low, low + 1, -1 << 32, -256, -1, 0, 1, 2, 255, 256, 1 << 32, high - 1, high} {
		out = append(out, value.Int(n))
	}
	for _, s := range []string{
		"", "\x00", "\x00\x00", "\x00\x01", "\x00\xff", "\x01", "\x01\x00", "'", "''", "a", "a\x00", "a\x00\x00", "a\x00\x01", "a\x00\x02", "a\x00b", "a\x00\xff", "a\x01", "a'b", "aa", "ab",
		strings.Repeat("b", 199), strings.Repeat("b", 200), "true", "\xff", strings.Repeat("\xff", 200),
	} {
		out = append(out, value.Text(s))
	}
	return append(out, value.Bool(false), value.Bool(true))
}

// wrongs are values that aren't right, one fault each.
func wrongs() []api.Value {
	return []api.Value{
		{}, {Kind: -1}, {Kind: 4}, {Kind: 257, N: 1}, {N: 1}, {S: "a"},
		{Kind: api.KInt, N: 1, S: "a"}, {Kind: api.KInt, S: "\x00"},
		{Kind: api.KText, N: 1, S: "a"}, {Kind: api.KText, N: -1}, {Kind: api.KText, S: strings.Repeat("a", 201)}, {Kind: api.KText, S: strings.Repeat("\x00", 1000)},
		{Kind: api.KBool, N: 2}, {Kind: api.KBool, N: -1}, {Kind: api.KBool, N: 257}, {Kind: api.KBool, N: 1, S: "a"}, {Kind: api.KBool, S: "a"},
	}
}

// P2.1.
func TestMakers(t *testing.T) {
	long := strings.Repeat("a", 1000)
	for _, c := range []struct{ got, want api.Value }{
		{value.Int(-5), api.Value{Kind: 1, N: -5}},
		{value.Int(0), api.Value{Kind: 1}},
		{value.Text("x'"), api.Value{Kind: 2, S: "x'"}},
		{value.Text(""), api.Value{Kind: 2}},
		{value.Text(long), api.Value{Kind: 2, S: long}},
		{value.Bool(true), api.Value{Kind: 3, N: 1}},
		{value.Bool(false), api.Value{Kind: 3}},
	} {
		if c.got != c.want {
			t.Errorf("%v; want %v", c.got, c.want)
		}
	}
}

// P2.1.
func TestRight(t *testing.T) {
	if !value.Right() || !value.Right(rights()...) {
		t.Error("not all are right")
	}
	for _, v := range wrongs() {
		if value.Right(v) || value.Right(value.Int(1), v) || value.Right(v, value.Int(1)) {
			t.Errorf("%v is right", v)
		}
	}
}

// P2.1: the order of any values.
func TestCmp(t *testing.T) {
	all := append(rights(), wrongs()...)
	for _, a := range all {
		for _, b := range all {
			want := cmp.Compare(a.Kind, b.Kind)
			if want == 0 {
				want = cmp.Compare(a.N, b.N)
			}
			if want == 0 {
				want = strings.Compare(a.S, b.S)
			}
			if got := value.Cmp(a, b); got != want {
				t.Errorf("Cmp(%v, %v): %d", a, b, got)
			}
		}
	}
	for i, b := range rights() {
		for _, a := range rights()[:i] {
			if value.Cmp(a, b) != -1 || value.Cmp(b, a) != 1 {
				t.Errorf("%v doesn't stand ahead of %v", a, b)
			}
		}
	}
}

// P2.1.
func TestRows(t *testing.T) {
	one, two, x := value.Int(1), value.Int(2), value.Text("x")
	rising := [][]api.Value{
		nil, {{Kind: -1}, {}}, {{}}, {one}, {one, one}, {one, one, one}, {one, two}, {one, x}, {two}, {two, one},
		{x}, {x, one}, {value.Bool(false)}, {value.Bool(true)}, {{Kind: api.KBool, N: 2}}, {{Kind: 4}, one},
	}
	for i, a := range rising {
		for j, b := range rising {
			if got := value.Rows(a, b); got != cmp.Compare(i, j) {
				t.Errorf("Rows(%v, %v): %d", a, b, got)
			}
		}
	}
	if value.Rows(nil, []api.Value{}) != 0 {
		t.Error("nil and empty rows aren't one")
	}
}

// remainder is that of a sum of any size, rounded down.
func remainder(sum *big.Int, n int) int {
	return int(new(big.Int).Mod(sum, big.NewInt(int64(n))).Int64())
}

// P2.4.
func TestSpread(t *testing.T) {
	for _, n := range []int{1, 2, 3, 7, 8, 1000, math.MaxInt} {
		for _, v := range append(rights(), value.Text(strings.Repeat("z", 1000))) {
			sum := big.NewInt(v.N)
			for i := range len(v.S) {
				sum.Add(sum, big.NewInt(int64(v.S[i])*int64(i+1)))
			}
			if got := value.Spread(v, n); got != remainder(sum, n) {
				t.Errorf("Spread(%v, %d): %d", v, n, got)
			}
		}
	}
	for _, n := range []int{0, -1, -8, math.MinInt} {
		for _, v := range append(rights(), wrongs()...) {
			if got := value.Spread(v, n); got != 0 {
				t.Errorf("Spread(%v, %d): %d", v, n, got)
			}
		}
	}
}

// P2.4, written out.
func TestSpreadExamples(t *testing.T) {
	for _, c := range []struct {
		v       api.Value
		n, want int
	}{
		{value.Int(-1), 4, 3}, {value.Int(-4), 4, 0}, {value.Int(9), 4, 1}, {value.Int(low), 7, 6}, {value.Int(high), math.MaxInt, 0},
		{value.Text(""), 8, 0}, {value.Text("a"), 8, 1}, {value.Text("ab"), 1000, 293}, {value.Text("ba"), 1000, 292},
		{value.Bool(true), 8, 1}, {value.Bool(true), 1, 0}, {value.Bool(false), 8, 0},
	} {
		if got := value.Spread(c.v, c.n); got != c.want {
			t.Errorf("Spread(%v, %d): %d; want %d", c.v, c.n, got, c.want)
		}
	}
}

// P2.4: a place is within 0 to n - 1, whatever the value.
func TestSpreadWithin(t *testing.T) {
	for _, v := range append(rights(), wrongs()...) {
		for _, n := range []int{1, 2, 5, 8, math.MaxInt} {
			if got := value.Spread(v, n); got < 0 || got >= n {
				t.Errorf("Spread(%v, %d): %d", v, n, got)
			}
		}
	}
}
