package tree_test

import (
	"fmt"
	"maps"
	"math"
	"slices"
	"testing"

	"afflux/tree"
)

// both are a tree, and what it must have.
type both struct {
	*tree.Tree[int]
	want map[string]int
}

func empty() both {
	return both{tree.New[int](), map[string]int{}}
}

// grown is a tree into which these keys were put, in this order, their values
// being how many were put ahead of them.
func grown(t *testing.T, keys ...string) both {
	t.Helper()
	b := empty()
	for i, k := range keys {
		b.put(t, k, i)
	}
	return b
}

// numbered are keys of three digits, from one number to behind another one.
func numbered(from, to, step int) []string {
	var out []string
	for i := from; i < to; i += step {
		out = append(out, fmt.Sprintf("%03d", i))
	}
	return out
}

func (b both) put(t *testing.T, k string, v int) {
	t.Helper()
	old, was := b.want[k]
	b.want[k] = v
	if got, had := b.Put(k, v); got != old || had != was {
		t.Errorf("Put(%q): %d, %t; want %d, %t", k, got, had, old, was)
	}
}

func (b both) drop(t *testing.T, k string) {
	t.Helper()
	old, was := b.want[k]
	delete(b.want, k)
	if got, had := b.Delete(k); got != old || had != was {
		t.Errorf("Delete(%q): %d, %t; want %d, %t", k, got, had, old, was)
	}
}

// keys are those that it must have, rising.
func (b both) keys() []string {
	return slices.Sorted(maps.Keys(b.want))
}

// check: it has what it must have, and its pages are as they must be.
func (b both) check(t *testing.T) {
	t.Helper()
	keys := b.keys()
	if b.Len() != len(keys) {
		t.Errorf("Len: %d; want %d", b.Len(), len(keys))
	}
	for _, k := range keys {
		b.checkGet(t, k)
	}
	if got := b.Keys("", "", math.MaxInt); !slices.Equal(got, keys) {
		t.Errorf("Keys: %q; want %q", got, keys)
	}
	if n := b.Count("", ""); n != len(keys) {
		t.Errorf("Count: %d; want %d", n, len(keys))
	}
	checkPages(t, b.Pages(), b.Depth(), keys)
	if t.Failed() {
		t.FailNow()
	}
}

func (b both) checkGet(t *testing.T, k string) {
	t.Helper()
	want, there := b.want[k]
	if v, ok := b.Get(k); v != want || ok != there {
		t.Errorf("Get(%q): %d, %t; want %d, %t", k, v, ok, want, there)
	}
}

// expectEntry: that key and its value were told; without a key: that there is none.
func (b both) expectEntry(t *testing.T, what, k string, v int, ok bool, want ...string) {
	t.Helper()
	if len(want) == 0 && (k != "" || v != 0 || ok) {
		t.Errorf("%s: %q, %d, %t; want none", what, k, v, ok)
	}
	if len(want) > 0 && (k != want[0] || v != b.want[k] || !ok) {
		t.Errorf("%s: %q, %d, %t; want %q, %d", what, k, v, ok, want[0], b.want[want[0]])
	}
}

// checkPages: these pages, each ahead of those below it, lie so deep, are such as
// may be, and have these keys.
func checkPages(t *testing.T, pages [][]string, depth int, keys []string) {
	t.Helper()
	if (depth == 0) != (len(keys) == 0) || depth < 0 {
		t.Errorf("Depth: %d of %d keys", depth, len(keys))
	}
	var got []string
	left := pages
	if depth > 0 {
		got, left = below(t, pages, depth-1, true)
	}
	if !slices.Equal(got, keys) || len(left) != 0 {
		t.Errorf("pages %q, %d deep: %q, and %q; want %q", pages, depth, got, left, keys)
	}
}

// below is the keys of the next page and of those below it, of which so many lie
// one below the other, in order; and the pages behind these.
func below(t *testing.T, pages [][]string, deep int, first bool) ([]string, [][]string) {
	t.Helper()
	if len(pages) == 0 {
		t.Errorf("a page is missing")
		return nil, nil
	}
	page, pages := pages[0], pages[1:]
	if n := len(page); n > 5 || n < 2 && !first || n < 1 {
		t.Errorf("a page of %d keys: %q", n, page)
	}
	if deep == 0 {
		return page, pages
	}
	var all, keys []string
	for i := range len(page) + 1 {
		keys, pages = below(t, pages, deep-1, false)
		all = append(all, keys...)
		all = append(all, page[i:min(i+1, len(page))]...)
	}
	return all, pages
}
