package calc_test

import (
	"math/big"
	"testing"

	"afflux/api"
	"afflux/calc"
)

func expectTotal(t *testing.T, s *calc.Total, wantN int64, wantE api.Errno, count int) {
	t.Helper()
	n, e := s.Sum()
	if n != wantN || e != wantE || s.Count() != count {
		t.Errorf("Sum: %d, %d, Count: %d; want %d, %d, %d", n, e, s.Count(), wantN, wantE, count)
	}
}

// P1.5.
func TestTotal(t *testing.T) {
	var s calc.Total
	expectTotal(t, &s, 0, api.OK, 0)
	s.Put()
	s.Take()
	expectTotal(t, &s, 0, api.OK, 0)
	s.Put(5, 7)
	expectTotal(t, &s, 12, api.OK, 2)
	s.Take(2)
	expectTotal(t, &s, 10, api.OK, 1)
	s.Take(1, 2, 3)
	expectTotal(t, &s, 4, api.OK, -2)
	s.Put(0, 0)
	expectTotal(t, &s, 4, api.OK, 0)
	s.Put(-5)
	expectTotal(t, &s, -1, api.OK, 1)
}

// P1.5: a sum that was beyond comes back.
func TestTotalComesBack(t *testing.T) {
	var s calc.Total
	s.Put(high)
	expectTotal(t, &s, high, api.OK, 1)
	s.Put(1)
	expectTotal(t, &s, 0, api.ErrRange, 2)
	expectTotal(t, &s, 0, api.ErrRange, 2)
	s.Take(1)
	expectTotal(t, &s, high, api.OK, 1)
	s.Take(low)
	expectTotal(t, &s, 0, api.ErrRange, 0)
	s.Put(low, low, low)
	expectTotal(t, &s, 0, api.ErrRange, 3)
	s.Take(low)
	expectTotal(t, &s, -1, api.OK, 2)
	s.Take(high)
	expectTotal(t, &s, low, api.OK, 1)
	s.Take(1)
	expectTotal(t, &s, 0, api.ErrRange, 0)
	s.Put(1)
	expectTotal(t, &s, low, api.OK, 1)
}

// P1.5: sums of many numbers, that are taken and put in turns.
func TestTotalOfMany(t *testing.T) {
	var s calc.Total
	sum, count := new(big.Int), 0
	for i := range 20000 {
		n := edges[(i*i+3*i)%len(edges)]
		if i%3 == 1 {
			s.Take(n)
			sum.Sub(sum, big.NewInt(n))
			count--
		} else {
			s.Put(n)
			sum.Add(sum, big.NewInt(n))
			count++
		}
		wantN, wantE := bounded(sum)
		expectTotal(t, &s, wantN, wantE, count)
	}
}

// P1.5.
func TestNilTotal(t *testing.T) {
	var s *calc.Total
	s.Put(1, 2)
	s.Take(3)
	expectTotal(t, s, 0, api.OK, 0)
}
