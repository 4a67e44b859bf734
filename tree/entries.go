package tree

import (
	"slices"
	"strings"
)

// How many keys a page has at most, and, but the first one, at least. Of one too
// many that at the place middle stands between those of two pages.
const (
	most   = 5
	least  = 2
	middle = 2
)

// entry is a key and its value.
type entry[V any] struct {
	key   string
	value V
}

// entries are those of a page, their keys rising.
type entries[V any] struct {
	list []entry[V]
}

// find is how many keys stand below a key, and whether it is the next one.
func (e *entries[V]) find(k string) (int, bool) {
	return slices.BinarySearchFunc(e.list, k, func(x entry[V], k string) int {
		return strings.Compare(x.key, k)
	})
}

// insert puts an entry at a place.
func (e *entries[V]) insert(at int, x entry[V]) {
	e.list = slices.Insert(e.list, at, x)
}

// take takes the entry at a place away.
func (e *entries[V]) take(at int) entry[V] {
	x := e.list[at]
	e.list = slices.Delete(e.list, at, at+1)
	return x
}

// tooMany tells whether there are more keys than a page may have.
func (e *entries[V]) tooMany() bool {
	return len(e.list) > most
}

// tooFew tells whether there are fewer keys than a page must have.
func (e *entries[V]) tooFew() bool {
	return len(e.list) < least
}

// spare tells whether there are more keys than a page must have.
func (e *entries[V]) spare() bool {
	return len(e.list) > least
}

// cut cuts off what stands in a list from a place on. Neither part has room to
// spare, so that neither holds what is the other's.
func cut[T any](l []T, at int) ([]T, []T) {
	off := slices.Clone(l[at:])
	clear(l[at:])
	return l[:at:at], off[:len(off):len(off)]
}
