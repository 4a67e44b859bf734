package tree_test

import (
	"errors"
	"fmt"
	"math/rand"
	"slices"
	"strings"
	"testing"

	"afflux/tree"
)

// nothing: a tree tells that it has nothing.
func nothing(t *testing.T, b both) {
	t.Helper()
	for _, k := range []string{"", "a", "\xff"} {
		b.checkGet(t, k)
		b.drop(t, k)
		for _, with := range []bool{false, true} {
			k2, v, ok := b.Next(k, with)
			b.expectEntry(t, "Next", k2, v, ok)
			k2, v, ok = b.Ahead(k, with)
			b.expectEntry(t, "Ahead", k2, v, ok)
		}
		if l := b.Keys(k, "", 9); len(l) != 0 {
			t.Errorf("Keys: %q", l)
		}
		if n := b.Count(k, ""); n != 0 {
			t.Errorf("Count: %d", n)
		}
	}
	k, v, ok := b.Last()
	b.expectEntry(t, "Last", k, v, ok)
	if b.Len() != 0 || b.Depth() != 0 || len(b.Pages()) != 0 {
		t.Errorf("Len %d, Depth %d, Pages %q", b.Len(), b.Depth(), b.Pages())
	}
}

// P8.1 to P8.3: of an empty tree.
func TestEmpty(t *testing.T) {
	b := empty()
	if b.Tree == nil {
		t.Fatal("New: nil")
	}
	nothing(t, b)
	b.put(t, "a", 1)
	b.check(t)
	b.drop(t, "a")
	nothing(t, b)
	for i, k := range numbered(0, 40, 1) {
		b.put(t, k, i+1)
	}
	for _, k := range numbered(0, 40, 1) {
		b.drop(t, k)
	}
	nothing(t, b)
}

// P8.3: a nil tree has nothing, and takes nothing.
func TestNil(t *testing.T) {
	b := both{nil, nil}
	nothing(t, b)
	for _, k := range []string{"", "a", "a"} {
		if v, had := b.Put(k, 5); v != 0 || had {
			t.Errorf("Put(%q): %d, %t", k, v, had)
		}
	}
	nothing(t, b)
}

// No call panics, also of a tree that New didn't make.
func TestOthers(t *testing.T) {
	var zero tree.Tree[int]
	both{&zero, map[string]int{}}.check(t)
	r := rand.New(rand.NewSource(8))
	for range 300 {
		a := tree.New[int]()
		if r.Intn(2) == 0 {
			a.Put("a", 1)
		}
		l := []*tree.Tree[int]{a}
		for range 400 {
			x := l[r.Intn(len(l))]
			if k := fmt.Sprint(r.Intn(60)); r.Intn(3) > 0 {
				x.Put(k, 1)
			} else {
				x.Delete(k)
			}
			if len(l) < 4 && r.Intn(50) == 0 {
				y := *x
				l = append(l, &y)
			}
			x.Next("3", true)
			x.Ahead("3", true)
			x.Last()
			x.Keys("", "", 100)
			x.Pages()
			x.Depth()
		}
	}
}

// P8.1: a key has the value that it was given last.
func TestPut(t *testing.T) {
	b := empty()
	b.put(t, "a", 1)
	b.put(t, "a", 2)
	b.put(t, "b", 0)
	b.put(t, "b", 0)
	b.put(t, "a", 0)
	b.put(t, "a", 3)
	b.check(t)
	for _, k := range []string{"", "A", "a\x00", "aa", "ab", "c"} {
		b.checkGet(t, k)
	}
	b = grown(t, numbered(0, 300, 3)...)
	for i, k := range numbered(0, 300, 1) {
		b.put(t, k, 1000+i)
		b.checkGet(t, k)
	}
	b.check(t)
}

// P8.1: keys are any bytes, the empty text, too.
func TestKeysOfAnyBytes(t *testing.T) {
	keys := []string{"", "\x00", "\x00\x00", "\x00\x01", "\x01", " ", "A", "a", "a\x00", "aa", "a\xff", "b", "\x7f", "\x80", "é", "\xc3", "\xff", "\xff\x00", "\xff\xff", strings.Repeat("x", 100000), strings.Repeat("x", 100001)}
	for range 3 {
		b := grown(t, keys...)
		b.check(t)
		for _, k := range keys {
			b.drop(t, k)
			b.checkGet(t, k)
			b.check(t)
		}
		slices.Reverse(keys)
		keys = append(keys[7:], keys[:7]...)
	}
}

// P8.1: values are of any type, and told as they were put.
func TestAnyType(t *testing.T) {
	texts := tree.New[string]()
	texts.Put("k", "v")
	if v, ok := texts.Get("k"); v != "v" || !ok {
		t.Errorf("Get: %q, %t", v, ok)
	}
	if v, had := texts.Put("l", "w"); v != "" || had {
		t.Errorf("Put: %q, %t", v, had)
	}

	lists := tree.New[[]int]()
	l := []int{1, 2}
	lists.Put("k", l)
	lists.Put("nil", nil)
	if v, ok := lists.Get("k"); !ok || len(v) != 2 || &v[0] != &l[0] {
		t.Errorf("Get: %v, %t", v, ok)
	}
	if v, ok := lists.Get("nil"); v != nil || !ok {
		t.Errorf("Get: %v, %t", v, ok)
	}
	if k, v, ok := lists.Last(); k != "nil" || v != nil || !ok {
		t.Errorf("Last: %q, %v, %t", k, v, ok)
	}
	if v, had := lists.Delete("nil"); v != nil || !had {
		t.Errorf("Delete: %v, %t", v, had)
	}

	errs := tree.New[error]()
	e := errors.New("e")
	errs.Put("k", e)
	if v, had := errs.Put("k", nil); v != e || !had {
		t.Errorf("Put: %v, %t", v, had)
	}
	if v, had := errs.Put("k", e); v != nil || !had {
		t.Errorf("Put: %v, %t", v, had)
	}

	calls := tree.New[func() int]()
	calls.Put("k", func() int { return 7 })
	if _, v, ok := calls.Next("", false); !ok || v() != 7 {
		t.Errorf("Next: %t", ok)
	}

	trees := tree.New[*tree.Tree[struct{}]]()
	trees.Put("a", tree.New[struct{}]())
	if v, ok := trees.Get("a"); v.Len() != 0 || !ok {
		t.Errorf("Get: %d, %t", v.Len(), ok)
	}
}

// P8.1: trees have nothing in common.
func TestTwoTrees(t *testing.T) {
	a, b := grown(t, numbered(0, 50, 1)...), grown(t, numbered(0, 50, 1)...)
	for i, k := range numbered(0, 50, 2) {
		a.drop(t, k)
		b.put(t, k, -i)
		b.put(t, k+"x", i)
	}
	a.check(t)
	b.check(t)
}

// orders are the same keys in various orders.
func orders(keys []string) [][]string {
	down := slices.Clone(keys)
	slices.Reverse(down)
	var inward, outward []string
	for i := range len(keys) / 2 {
		inward = append(inward, keys[i], down[i])
	}
	if len(keys)%2 == 1 {
		inward = append(inward, keys[len(keys)/2])
	}
	outward = slices.Clone(inward)
	slices.Reverse(outward)
	out := [][]string{keys, down, inward, outward}
	for seed := range int64(4) {
		mixed := slices.Clone(keys)
		rand.New(rand.NewSource(seed)).Shuffle(len(mixed), func(i, j int) {
			mixed[i], mixed[j] = mixed[j], mixed[i]
		})
		out = append(out, mixed)
	}
	return out
}

// P8.1, P8.3: however keys come and go.
func TestOrders(t *testing.T) {
	for _, n := range []int{1, 5, 6, 7, 17, 18, 60, 250} {
		for _, in := range orders(numbered(0, n, 1)) {
			for _, out := range orders(numbered(0, n, 1)) {
				b := empty()
				for i, k := range in {
					b.put(t, k, i)
					if n < 20 {
						b.check(t)
					}
				}
				b.check(t)
				for _, k := range out {
					b.drop(t, k)
					b.drop(t, k)
					if n < 70 {
						b.check(t)
					}
				}
				b.check(t)
			}
		}
	}
}

// permute yields all orders of keys.
func permute(keys []string, from int, yield func([]string)) {
	if from == len(keys) {
		yield(keys)
	}
	for i := from; i < len(keys); i++ {
		keys[from], keys[i] = keys[i], keys[from]
		permute(keys, from+1, yield)
		keys[from], keys[i] = keys[i], keys[from]
	}
}

// P8.1, P8.3: all orders of a few keys, and one of them away.
func TestAllOrders(t *testing.T) {
	all := strings.Split("abcdefg", "")
	permute(all, 0, func(keys []string) {
		for _, gone := range keys {
			b := grown(t, keys...)
			b.drop(t, gone)
			b.check(t)
		}
	})
}

// P8.1, P8.3: all trees that can be of a few keys, and all that can be done next
// to each.
func TestAllTrees(t *testing.T) {
	keys := strings.Split("abcdefghijk", "")
	// How each was made: the keys that were put, or, being there, deleted.
	ways := [][]string{nil}
	seen := map[string]bool{"[]": true}
	for i := 0; i < len(ways); i++ {
		for _, next := range keys {
			b := empty()
			way := append(slices.Clip(ways[i]), next)
			for j, k := range way {
				if _, there := b.want[k]; there {
					b.drop(t, k)
				} else {
					b.put(t, k, j)
				}
			}
			b.check(t)
			b.checkAround(t, next)
			if shape := fmt.Sprint(b.Pages()); !seen[shape] {
				seen[shape] = true
				ways = append(ways, way)
			}
		}
	}
	if len(ways) < 1<<len(keys) {
		t.Errorf("%d trees", len(ways))
	}
}

// P8.1 to P8.3: many keys that come and go.
func TestComeAndGo(t *testing.T) {
	for seed := range int64(6) {
		r := rand.New(rand.NewSource(seed))
		b := empty()
		keys := 30 + r.Intn(900)
		for i := range 6000 {
			k := fmt.Sprint(r.Intn(keys))
			// By turns more come than go, and more go than come.
			if r.Intn(10) < 3+i/1000%2*4 {
				b.drop(t, k)
			} else {
				b.put(t, k, r.Int())
			}
			if i%20 == 0 {
				b.checkAround(t, fmt.Sprint(r.Intn(keys)))
			}
			if i%100 == 0 {
				b.check(t)
			}
		}
		b.check(t)
	}
}
