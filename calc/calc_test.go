package calc_test

import (
	"math"
	"math/big"
	"testing"

	"afflux/api"
	"afflux/calc"
)

const (
	low  = math.MinInt64
	high = math.MaxInt64
)

// edges are numbers at which sums, products and quotients turn.
var edges = []int64{
	0, 1, -1, 2, -2, 3, -3, 7, -7, 10, -10, 255, -256,
	1 << 31, -1 << 31, 1<<32 - 1, -1 << 32, 3037000499, 3037000500, -3037000500,
	1 << 62, -1 << 62, 1<<62 - 1, 1<<62 + 1, high, high - 1, low, low + 1, low / 2, low / 3, high / 7,
}

// bounded is what a call must answer for the number b.
func bounded(b *big.Int) (int64, api.Errno) {
	if !b.IsInt64() {
		return 0, api.ErrRange
	}
	return b.Int64(), api.OK
}

func expect(t *testing.T, what string, in []int64, n int64, e api.Errno, wantN int64, wantE api.Errno) {
	t.Helper()
	if n != wantN || e != wantE {
		t.Errorf("%s of %v: %d, %d; want %d, %d", what, in, n, e, wantN, wantE)
	}
}

// lists are all lists of up to three edges.
func lists() [][]int64 {
	out := [][]int64{nil}
	for _, a := range edges {
		out = append(out, []int64{a})
		for _, b := range edges {
			out = append(out, []int64{a, b})
			for _, c := range edges {
				out = append(out, []int64{a, b, c})
			}
		}
	}
	return out
}

// P1.1.
func TestAddMulSub(t *testing.T) {
	for _, l := range lists() {
		sum, product := big.NewInt(0), big.NewInt(1)
		for _, n := range l {
			sum.Add(sum, big.NewInt(n))
			product.Mul(product, big.NewInt(n))
		}
		wantN, wantE := bounded(sum)
		n, e := calc.Add(l...)
		expect(t, "Add", l, n, e, wantN, wantE)
		wantN, wantE = bounded(product)
		n, e = calc.Mul(l...)
		expect(t, "Mul", l, n, e, wantN, wantE)
		if len(l) == 0 {
			continue
		}
		left := new(big.Int).Sub(big.NewInt(l[0]), new(big.Int).Sub(sum, big.NewInt(l[0])))
		wantN, wantE = bounded(left)
		n, e = calc.Sub(l[0], l[1:]...)
		expect(t, "Sub", l, n, e, wantN, wantE)
	}
}

// P1.1: what is in between may be beyond, also far beyond.
func TestBeyondInBetween(t *testing.T) {
	var ups, downs []int64
	for range 100 {
		ups, downs = append(ups, high), append(downs, low)
	}
	n, e := calc.Add(append(append([]int64{}, ups...), downs...)...)
	expect(t, "Add", []int64{high, low}, n, e, -100, api.OK)
	_, e = calc.Add(ups...)
	expect(t, "Add", ups, 0, e, 0, api.ErrRange)
	n, e = calc.Sub(high, append(append([]int64{}, ups...), downs...)...)
	expect(t, "Sub", []int64{high, low}, n, e, 0, api.ErrRange)
	n, e = calc.Sub(-90, append(append([]int64{}, ups...), downs...)...)
	expect(t, "Sub", []int64{high, low}, n, e, 10, api.OK)
	n, e = calc.Mul(append(append([]int64{}, ups...), 0)...)
	expect(t, "Mul", []int64{high, 0}, n, e, 0, api.OK)
	n, e = calc.Mul(append([]int64{-1, -1, 0}, downs...)...)
	expect(t, "Mul", []int64{0, low}, n, e, 0, api.OK)
	n, e = calc.Mul(low, -1, -1)
	expect(t, "Mul", []int64{low, -1, -1}, n, e, low, api.OK)
	n, e = calc.Mul(1<<32, 1<<32)
	expect(t, "Mul", []int64{1 << 32, 1 << 32}, n, e, 0, api.ErrRange)
}

// P1.1.
func TestNeg(t *testing.T) {
	for _, a := range edges {
		wantN, wantE := bounded(new(big.Int).Neg(big.NewInt(a)))
		n, e := calc.Neg(a)
		expect(t, "Neg", []int64{a}, n, e, wantN, wantE)
	}
	n, e := calc.Neg(low)
	expect(t, "Neg", []int64{low}, n, e, 0, api.ErrRange)
}

// floor is a over b, rounded down, by numbers of any size.
func floor(a, b int64) *big.Int {
	q, r := new(big.Int).QuoRem(big.NewInt(a), big.NewInt(b), new(big.Int))
	if r.Sign() != 0 && r.Sign() != big.NewInt(b).Sign() {
		q.Sub(q, big.NewInt(1))
	}
	return q
}

// P1.2.
func TestDivMod(t *testing.T) {
	for _, a := range edges {
		for _, b := range edges {
			in := []int64{a, b}
			q, qe := calc.Div(a, b)
			r, re := calc.Mod(a, b)
			if b == 0 {
				expect(t, "Div", in, q, qe, 0, api.ErrZero)
				expect(t, "Mod", in, r, re, 0, api.ErrZero)
				continue
			}
			f := floor(a, b)
			wantN, wantE := bounded(f)
			expect(t, "Div", in, q, qe, wantN, wantE)
			rest := new(big.Int).Sub(big.NewInt(a), f.Mul(f, big.NewInt(b)))
			wantN, wantE = bounded(rest)
			expect(t, "Mod", in, r, re, wantN, wantE)
		}
	}
}

// P1.2, as the document writes it out.
func TestDivModRoundDown(t *testing.T) {
	for _, c := range []struct{ a, b, q, r int64 }{
		{-7, 2, -4, 1}, {7, 2, 3, 1}, {7, -2, -4, -1}, {-7, -2, 3, -1}, {-6, 2, -3, 0}, {6, -2, -3, 0}, {0, -5, 0, 0},
		{low, 1, low, 0}, {low, 2, low / 2, 0}, {high, -1, -high, 0}, {1, low, -1, low + 1}, {-1, high, -1, high - 1},
	} {
		in := []int64{c.a, c.b}
		n, e := calc.Div(c.a, c.b)
		expect(t, "Div", in, n, e, c.q, api.OK)
		n, e = calc.Mod(c.a, c.b)
		expect(t, "Mod", in, n, e, c.r, api.OK)
	}
	n, e := calc.Div(low, -1)
	expect(t, "Div", []int64{low, -1}, n, e, 0, api.ErrRange)
	n, e = calc.Mod(low, -1)
	expect(t, "Mod", []int64{low, -1}, n, e, 0, api.OK)
	n, e = calc.Div(0, 0)
	expect(t, "Div", []int64{0, 0}, n, e, 0, api.ErrZero)
}

// P1.3.
func TestLeastMost(t *testing.T) {
	for _, c := range []struct {
		l           []int64
		least, most int64
	}{
		{[]int64{5}, 5, 5},
		{[]int64{5, 5}, 5, 5},
		{[]int64{1, 2, 3}, 1, 3},
		{[]int64{3, 2, 1}, 1, 3},
		{[]int64{2, 1, 3, 2}, 1, 3},
		{[]int64{-1, 0, 1}, -1, 1},
		{[]int64{-3, -5, -4}, -5, -3},
		{[]int64{high, low, 0}, low, high},
		{[]int64{low}, low, low},
	} {
		if n := calc.Least(c.l[0], c.l[1:]...); n != c.least {
			t.Errorf("Least of %v: %d", c.l, n)
		}
		if n := calc.Most(c.l[0], c.l[1:]...); n != c.most {
			t.Errorf("Most of %v: %d", c.l, n)
		}
	}
}
