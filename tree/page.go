package tree

import (
	"slices"
)

// page is entries, and the pages below, one more than entries; without any it is
// one of the deepest ones.
type page[V any] struct {
	entries[V]
	below []*page[V]
}

// child is the page below that lies ahead of a place's key; nil, if there are
// none.
func (p *page[V]) child(at int) *page[V] {
	if p.below == nil {
		return nil
	}
	return p.below[at]
}

// walk yields the keys from one on, below another one, and tells whether it may
// go on behind them.
func (p *page[V]) walk(from, to string, yield func(string) bool) bool {
	if p == nil {
		return true
	}
	i, _ := p.find(from)
	for _, x := range p.list[i:] {
		if !p.child(i).walk(from, to, yield) || to != "" && x.key >= to || !yield(x.key) {
			return false
		}
		i++
	}
	return p.child(i).walk(from, to, yield)
}

// pages is the keys of the page, and of those below it, behind those of others.
func (p *page[V]) pages(others [][]string) [][]string {
	if p == nil {
		return others
	}
	keys := make([]string, len(p.list))
	for i, x := range p.list {
		keys[i] = x.key
	}
	others = append(others, keys)
	for _, q := range p.below {
		others = q.pages(others)
	}
	return others
}

// put puts an entry into the page, or one below it; then it may have a key too
// many.
func (p *page[V]) put(x entry[V]) (V, bool) {
	i, here := p.find(x.key)
	if here {
		old := p.list[i].value
		p.list[i].value = x.value
		return old, true
	}
	if p.below == nil {
		var none V
		p.insert(i, x)
		return none, false
	}
	old, had := p.below[i].put(x)
	if p.below[i].tooMany() {
		p.split(i)
	}
	return old, had
}

// split makes two pages of one below, the key in the middle coming up between
// them.
func (p *page[V]) split(at int) {
	left, right := p.below[at], &page[V]{}
	p.insert(at, left.take(middle))
	left.list, right.list = cut(left.list, middle)
	if left.below != nil {
		left.below, right.below = cut(left.below, middle+1)
	}
	p.below = slices.Insert(p.below, at+1, right)
}

// raise lays what a first page has, with a key too many, into two pages below it.
// It stays the same page, as in lower: a tree that was copied has it, too.
func (p *page[V]) raise() {
	left := *p
	*p = page[V]{below: []*page[V]{&left}}
	p.split(0)
}

// lower gives a first page without keys what its only page below has.
func (p *page[V]) lower() {
	*p = *p.below[0]
}

// drop takes a key away from the page, or from one below it; then it may have a
// key too few.
func (p *page[V]) drop(k string) (V, bool) {
	i, here := p.find(k)
	if p.below == nil {
		if here {
			return p.take(i).value, true
		}
		var none V
		return none, false
	}
	if here {
		// The greatest key ahead of it comes up into its place.
		old := p.list[i].value
		p.list[i] = p.below[i].dropLast()
		p.mend(i)
		return old, true
	}
	old, had := p.below[i].drop(k)
	p.mend(i)
	return old, had
}

// dropLast takes the greatest key away, as drop does.
func (p *page[V]) dropLast() entry[V] {
	last := len(p.list)
	if p.below == nil {
		return p.take(last - 1)
	}
	x := p.below[last].dropLast()
	p.mend(last)
	return x
}

// mend mends a page below that has a key too few: it gets one from a page beside
// it that can spare one, or is made one with it.
func (p *page[V]) mend(at int) {
	switch {
	case !p.below[at].tooFew():
	case at > 0 && p.below[at-1].spare():
		p.shiftRight(at - 1)
	case at < len(p.list) && p.below[at+1].spare():
		p.shiftLeft(at)
	case at > 0:
		p.merge(at - 1)
	default:
		p.merge(at)
	}
}

// shiftRight lets a key from the page ahead of a place's key come up into its
// place, and that one go down behind it.
func (p *page[V]) shiftRight(at int) {
	left, right := p.below[at], p.below[at+1]
	right.insert(0, p.list[at])
	if n := len(left.list); left.below != nil {
		right.below = slices.Insert(right.below, 0, left.below[n])
		left.below = slices.Delete(left.below, n, n+1)
	}
	p.list[at] = left.take(len(left.list) - 1)
}

// shiftLeft does the same the other way round.
func (p *page[V]) shiftLeft(at int) {
	left, right := p.below[at], p.below[at+1]
	left.insert(len(left.list), p.list[at])
	if right.below != nil {
		left.below = append(left.below, right.below[0])
		right.below = slices.Delete(right.below, 0, 1)
	}
	p.list[at] = right.take(0)
}

// merge makes one page of those on both sides of a place's key, and of that key.
func (p *page[V]) merge(at int) {
	left, right := p.below[at], p.below[at+1]
	left.list = append(append(left.list, p.take(at)), right.list...)
	left.below = append(left.below, right.below...)
	p.below = slices.Delete(p.below, at+1, at+2)
}
