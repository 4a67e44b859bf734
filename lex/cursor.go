package lex

import (
	"slices"
)

// place is where a cursor stands: at the first of the words that are to come, or
// at the end, if there are none.
type place struct {
	words []Word
	end   int
}

// word is the word that stands there.
func (p *place) word() Word {
	if len(p.words) == 0 {
		return Word{Kind: End, At: p.end}
	}
	return p.words[0]
}

// come tells whether the next words have these texts.
func (p *place) come(texts []string) bool {
	n := len(texts)
	return n <= len(p.words) && slices.EqualFunc(p.words[:n], texts, Word.has)
}

// pass goes behind the next words, of which there are so many.
func (p *place) pass(n int) {
	p.words = p.words[n:]
}

// Cursor goes through words.
type Cursor struct {
	place
}

// On is a cursor at the first word.
func On(l []Word, end int) *Cursor {
	return &Cursor{place{slices.Clone(l), end}}
}

// Word is the word where a cursor stands.
func (c *Cursor) Word() Word {
	if c == nil {
		return Word{Kind: End}
	}
	return c.word()
}

// Is tells whether the word is one of some.
func (c *Cursor) Is(texts ...string) bool {
	return slices.ContainsFunc(texts, c.Word().has)
}

// Take goes behind these words, if they come next.
func (c *Cursor) Take(texts ...string) bool {
	if c == nil || !c.come(texts) {
		return false
	}
	c.pass(len(texts))
	return true
}

// Kind goes behind the word, if it is of a kind. (The end isn't to come, so that
// nothing goes behind it.)
func (c *Cursor) Kind(kind int) (Word, bool) {
	w := c.Word()
	if c.Left() == 0 || w.Kind != kind {
		return Word{}, false
	}
	c.pass(1)
	return w, true
}

// Left is how many words are to come.
func (c *Cursor) Left() int {
	if c == nil {
		return 0
	}
	return len(c.words)
}
