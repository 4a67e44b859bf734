// Package value is layer 2: numbers, texts, truths, and rows of them.
package value

import (
	"cmp"
	"slices"

	"afflux/api"
	"afflux/calc"
)

// Int is a number.
func Int(n int64) api.Value {
	return api.Value{Kind: api.KInt, N: n}
}

// Text is a text.
func Text(s string) api.Value {
	return api.Value{Kind: api.KText, S: s}
}

// Bool is a truth.
func Bool(b bool) api.Value {
	if b {
		return api.Value{Kind: api.KBool, N: 1}
	}
	return api.Value{Kind: api.KBool}
}

// Right tells whether values are right.
func Right(l ...api.Value) bool {
	for _, v := range l {
		if !right(v) {
			return false
		}
	}
	return true
}

// right holds a value against the one that is made of what its kind has: what
// else it has makes it wrong.
func right(v api.Value) bool {
	switch v.Kind {
	case api.KInt:
		return v == Int(v.N)
	case api.KText:
		return v == Text(v.S) && len(v.S) <= api.MaxText
	case api.KBool:
		return v == Bool(v.N == 1)
	}
	return false
}

// Cmp is which of two values stands first.
func Cmp(a, b api.Value) int {
	return cmp.Or(cmp.Compare(a.Kind, b.Kind), cmp.Compare(a.N, b.N), cmp.Compare(a.S, b.S))
}

// Rows is which of two rows stands first.
func Rows(a, b []api.Value) int {
	return slices.CompareFunc(a, b, Cmp)
}

// Spread is a place for a value, of so many.
func Spread(v api.Value, n int) int {
	if n < 1 {
		return 0
	}
	switch v.Kind {
	case api.KInt, api.KBool:
		place, _ := calc.Mod(v.N, int64(n))
		return int(place)
	case api.KText:
		return spreadText(v.S, uint64(n))
	}
	return 0
}

// spreadText takes the remainder byte by byte: the sum of a text that is too
// long to be right could be beyond.
func spreadText(s string, n uint64) int {
	sum := uint64(0)
	for i, c := range []byte(s) {
		sum = (sum + uint64(c)*uint64(i+1)) % n
	}
	return int(sum)
}
