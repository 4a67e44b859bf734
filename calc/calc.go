// Package calc is layer 1: numbers of 64 bits that never go beyond.
package calc

import (
	"math/bits"
	"slices"

	"afflux/api"
)

// Add is the sum of all.
func Add(l ...int64) (int64, api.Errno) {
	var t Total
	t.Put(l...)
	return t.Sum()
}

// Sub is a number less all others.
func Sub(a int64, l ...int64) (int64, api.Errno) {
	var t Total
	t.Put(a)
	t.Take(l...)
	return t.Sum()
}

// Neg is the opposite.
func Neg(a int64) (int64, api.Errno) {
	return Sub(0, a)
}

// Mul is the product of all.
func Mul(l ...int64) (int64, api.Errno) {
	// A nought brings the product back from wherever the others take it;
	// without one it never comes back from beyond.
	if slices.Contains(l, 0) {
		return 0, api.OK
	}
	size, below := uint64(1), false
	for _, n := range l {
		hi, lo := bits.Mul64(size, magnitude(n))
		if hi != 0 {
			return 0, api.ErrRange
		}
		size, below = lo, below != (n < 0)
	}
	return signed(size, below)
}

// Div is a quotient, rounded down.
func Div(a, b int64) (int64, api.Errno) {
	switch b {
	case 0:
		return 0, api.ErrZero
	case -1: // the one divisor by which a quotient is beyond
		return Neg(a)
	}
	q := a / b
	if a%b != 0 && (a < 0) != (b < 0) {
		q--
	}
	return q, api.OK
}

// Mod is what is left of a quotient.
func Mod(a, b int64) (int64, api.Errno) {
	if b == 0 {
		return 0, api.ErrZero
	}
	r := a % b
	if r != 0 && (r < 0) != (b < 0) {
		r += b
	}
	return r, api.OK
}

// Least is the least of all.
func Least(first int64, more ...int64) int64 {
	for _, n := range more {
		first = min(first, n)
	}
	return first
}

// Most is the greatest of all.
func Most(first int64, more ...int64) int64 {
	for _, n := range more {
		first = max(first, n)
	}
	return first
}
