package calc

import (
	"math/bits"

	"afflux/api"
)

// wide is a number of 128 bits, hi times 2^64 and lo: sums of numbers stay
// within it however many there are, so that only the last one is held against
// the bounds.
type wide struct {
	hi int64
	lo uint64
}

func widen(n int64) wide {
	return wide{hi: n >> 63, lo: uint64(n)}
}

func (w wide) plus(v wide) wide {
	lo, carry := bits.Add64(w.lo, v.lo, 0)
	hi, _ := bits.Add64(uint64(w.hi), uint64(v.hi), carry)
	return wide{hi: int64(hi), lo: lo}
}

func (w wide) less(v wide) wide {
	lo, borrow := bits.Sub64(w.lo, v.lo, 0)
	hi, _ := bits.Sub64(uint64(w.hi), uint64(v.hi), borrow)
	return wide{hi: int64(hi), lo: lo}
}

// narrow is the number that w is, if it isn't beyond.
func (w wide) narrow() (int64, api.Errno) {
	n := int64(w.lo)
	if w != widen(n) {
		return 0, api.ErrRange
	}
	return n, api.OK
}

// magnitude is n without its sign; the lowest number's fits here alone.
func magnitude(n int64) uint64 {
	if n < 0 {
		return -uint64(n)
	}
	return uint64(n)
}

// signed is the number of that magnitude, below 0 or not.
func signed(size uint64, below bool) (int64, api.Errno) {
	w := wide{lo: size}
	if below {
		w = wide{}.less(w)
	}
	return w.narrow()
}
