package tree_test

import (
	"fmt"
	"math"
	"slices"
	"testing"

	"afflux/tree"
)

// checkAround: what stands around a key, which may be there or not.
func (b both) checkAround(t *testing.T, k string) {
	t.Helper()
	b.checkGet(t, k)
	keys := b.keys()
	i, here := slices.BinarySearch(keys, k)
	above := keys[i:]
	if here {
		above = keys[i+1:]
	}
	b.checkNext(t, k, false, above)
	b.checkNext(t, k, true, keys[i:])
	b.checkAhead(t, k, false, keys[:i])
	b.checkAhead(t, k, true, keys[:len(keys)-len(above)])
	last, v, ok := b.Last()
	b.expectEntry(t, "Last", last, v, ok, keys[max(len(keys)-1, 0):]...)
	b.checkKeys(t, k, "", keys[i:])
	if k != "" {
		b.checkKeys(t, "", k, keys[:i])
	}
}

// checkNext: the next key is the first one of these.
func (b both) checkNext(t *testing.T, k string, with bool, of []string) {
	t.Helper()
	got, v, ok := b.Next(k, with)
	b.expectEntry(t, fmt.Sprintf("Next(%q, %t)", k, with), got, v, ok, of...)
}

// checkAhead: the key ahead is the last one of these.
func (b both) checkAhead(t *testing.T, k string, with bool, of []string) {
	t.Helper()
	got, v, ok := b.Ahead(k, with)
	b.expectEntry(t, fmt.Sprintf("Ahead(%q, %t)", k, with), got, v, ok, of[max(len(of)-1, 0):]...)
}

// checkKeys: these keys are told, all and some, and counted.
func (b both) checkKeys(t *testing.T, from, to string, want []string) {
	t.Helper()
	for _, most := range []int{math.MinInt, -1, 0, 1, 2, len(want) - 1, len(want), len(want) + 1, math.MaxInt} {
		some := want[:min(max(most, 0), len(want))]
		if got := b.Keys(from, to, most); !slices.Equal(got, some) {
			t.Errorf("Keys(%q, %q, %d): %q; want %q", from, to, most, got, some)
		}
	}
	if n := b.Count(from, to); n != len(want) {
		t.Errorf("Count(%q, %q): %d; want %d", from, to, n, len(want))
	}
}

// probes are keys that are there, and such as stand close to them.
func (b both) probes() []string {
	out := []string{"", "\x00", "\xff", "\xff\xff"}
	for _, k := range b.keys() {
		out = append(out, k, k+"\x00", k[:max(len(k)-1, 0)], k+"\xff")
	}
	return out
}

// P8.2: around each key, and between any two.
func TestAround(t *testing.T) {
	for _, n := range []int{0, 1, 2, 5, 6, 11, 20, 26, 70} {
		b := grown(t, numbered(0, 2*n, 2)...)
		for _, k := range append(b.probes(), numbered(1, 2*n, 2)...) {
			b.checkAround(t, k)
		}
	}
}

// P8.2: with the empty key, too.
func TestAroundEmptyKey(t *testing.T) {
	b := grown(t, "", "b", "a", "ab", "\x00", "c", "d", "e")
	for _, k := range b.probes() {
		b.checkAround(t, k)
	}
	b.drop(t, "")
	b.checkAround(t, "")
	b = grown(t, "")
	b.checkAround(t, "")
	b.checkAround(t, "a")
}

// P8.2: from any key on, below any other one.
func TestBetween(t *testing.T) {
	for _, n := range []int{0, 1, 5, 6, 23, 40} {
		b := grown(t, numbered(1, 2*n, 2)...)
		keys := b.keys()
		edges := append(numbered(0, 2*n+2, 1), "", "\xff")
		for _, from := range edges {
			for _, to := range edges {
				i, _ := slices.BinarySearch(keys, from)
				j, _ := slices.BinarySearch(keys, to)
				if to == "" {
					j = len(keys)
				}
				b.checkKeys(t, from, to, keys[i:max(i, j)])
			}
		}
	}
}

// P8.2: what is told is the value that a key has now.
func TestAroundChanged(t *testing.T) {
	b := grown(t, numbered(0, 60, 1)...)
	for i, k := range numbered(0, 60, 1) {
		b.put(t, k, -i)
		b.checkAround(t, k)
	}
	for _, k := range numbered(0, 60, 1) {
		b.drop(t, k)
		b.checkAround(t, k)
		b.check(t)
	}
}

// P8.3: the document's example.
func TestExample(t *testing.T) {
	b := grown(t, "a", "b", "c", "d", "e")
	if got := fmt.Sprint(b.Pages()); got != "[[a b c d e]]" || b.Depth() != 1 {
		t.Errorf("%s, %d deep", got, b.Depth())
	}
	b.put(t, "f", 6)
	if got := fmt.Sprint(b.Pages()); got != "[[c] [a b] [d e f]]" || b.Depth() != 2 {
		t.Errorf("%s, %d deep", got, b.Depth())
	}
}

// P8.3: each page is told ahead of those below it, and these from the left on,
// where there are three, one below the other, too.
func TestPages(t *testing.T) {
	b := grown(t, numbered(0, 40, 1)...)
	if b.Depth() != 3 {
		t.Fatalf("%d deep", b.Depth())
	}
	pages := b.Pages()
	first := pages[0]
	if len(first) == 0 || pages[1][0] >= first[0] || pages[2][0] != "000" || pages[3][0] <= pages[1][0] || pages[3][0] >= pages[1][1] {
		t.Errorf("%q", pages)
	}
	if last := pages[len(pages)-1]; last[len(last)-1] != "039" {
		t.Errorf("%q", pages)
	}
	b.check(t)
}

// P8.3: pages of at most 5 keys and at least 2 bound the depth from both sides.
func TestDepth(t *testing.T) {
	for _, keys := range orders(numbered(0, 999, 1)) {
		b := grown(t, keys...)
		b.check(t)
		if d := b.Depth(); d < 4 || d > 6 {
			t.Errorf("%d deep", d)
		}
		for _, k := range keys[5:] {
			b.drop(t, k)
		}
		b.check(t)
		if d := b.Depth(); d > 2 {
			t.Errorf("5 keys: %d deep", d)
		}
	}
}

// What is answered is new memory: who changes it changes no tree.
func TestNewMemory(t *testing.T) {
	b := grown(t, numbered(0, 100, 1)...)
	for range 2 {
		pages := b.Pages()
		for _, l := range append(pages, b.Keys("", "", 1000), b.Keys("020", "030", 5)) {
			for i := range l {
				l[i] = "x"
			}
			_ = append(l, "y", "z")
		}
		clear(pages)
		b.check(t)
	}
}

// What is asked changes nothing, a key that isn't there neither.
func TestAsked(t *testing.T) {
	b := grown(t, numbered(0, 100, 2)...)
	pages := fmt.Sprint(b.Pages())
	for _, k := range append(b.probes(), numbered(1, 100, 2)...) {
		b.checkAround(t, k)
		if _, there := b.want[k]; !there {
			b.drop(t, k)
		}
	}
	b.check(t)
	if got := fmt.Sprint(b.Pages()); got != pages {
		t.Errorf("%s; want %s", got, pages)
	}
}

// P8.1, P8.2: values of any type are told as they were put, those of deep pages,
// too.
func TestDeepValues(t *testing.T) {
	type pair struct {
		a int
		b string
	}
	x := tree.New[pair]()
	for i, k := range numbered(0, 30, 1) {
		x.Put(k, pair{i, k})
	}
	for i, k := range numbered(0, 30, 1) {
		if v, ok := x.Get(k); v != (pair{i, k}) || !ok {
			t.Errorf("Get(%q): %v, %t", k, v, ok)
		}
		if got, v, ok := x.Next(k, true); got != k || v != (pair{i, k}) || !ok {
			t.Errorf("Next(%q): %q, %v, %t", k, got, v, ok)
		}
		if v, ok := x.Delete(k); v != (pair{i, k}) || !ok {
			t.Errorf("Delete(%q): %v, %t", k, v, ok)
		}
		if v, ok := x.Get(k); v != (pair{}) || ok {
			t.Errorf("Get(%q): %v, %t", k, v, ok)
		}
	}
}
