package calc

import (
	"afflux/api"
)

// Total keeps the sum of numbers that come and go.
type Total struct {
	sum   wide
	count int
}

// Put adds numbers.
func (t *Total) Put(l ...int64) {
	if t == nil {
		return
	}
	for _, n := range l {
		t.sum = t.sum.plus(widen(n))
	}
	t.count += len(l)
}

// Take takes numbers away.
func (t *Total) Take(l ...int64) {
	if t == nil {
		return
	}
	for _, n := range l {
		t.sum = t.sum.less(widen(n))
	}
	t.count -= len(l)
}

// Sum is the sum of all.
func (t *Total) Sum() (int64, api.Errno) {
	if t == nil {
		return 0, api.OK
	}
	return t.sum.narrow()
}

// Count is how many there are.
func (t *Total) Count() int {
	if t == nil {
		return 0
	}
	return t.count
}
