package table

import (
	"iter"

	"afflux/tree"
)

// index is records by their keys. Without a tree it has none.
type index struct {
	*tree.Tree[*record]
}

func newIndex() index {
	return index{tree.New[*record]()}
}

// behind yields the records in some partitions whose keys are above one, rising.
// (No record's key is empty: above that one are all.)
func (x index) behind(key string, parts []int) iter.Seq2[string, *record] {
	return func(yield func(string, *record) bool) {
		for k, r, ok := x.Next(key, false); ok; k, r, ok = x.Next(k, false) {
			if r.in(parts) && !yield(k, r) {
				return
			}
		}
	}
}

// all yields the records in some partitions, rising.
func (x index) all(parts []int) iter.Seq2[string, *record] {
	return x.behind("", parts)
}
