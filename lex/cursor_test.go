package lex_test

import (
	"math"
	"math/rand"
	"testing"

	"afflux/lex"
)

// on is a cursor at the first word of a text.
func on(t *testing.T, s string) *lex.Cursor {
	t.Helper()
	l, at, e := lex.Words(s)
	if e != 0 {
		t.Fatalf("Words(%q): %d, %d", s, at, e)
	}
	return lex.On(l, len(s))
}

// expectAt: a cursor stands at a word, and so many are to come.
func expectAt(t *testing.T, c *lex.Cursor, want lex.Word, left int) {
	t.Helper()
	if w := c.Word(); w != want || c.Left() != left {
		t.Errorf("Word: %v, %d to come; want %v, %d", w, c.Left(), want, left)
	}
}

func expectIs(t *testing.T, c *lex.Cursor, want bool, texts ...string) {
	t.Helper()
	if got := c.Is(texts...); got != want {
		t.Errorf("Is(%q) at %v: %t", texts, c.Word(), got)
	}
}

func expectTake(t *testing.T, c *lex.Cursor, want bool, texts ...string) {
	t.Helper()
	was := c.Word()
	if got := c.Take(texts...); got != want {
		t.Errorf("Take(%q) at %v: %t", texts, was, got)
	}
}

func expectKind(t *testing.T, c *lex.Cursor, kind int, want lex.Word, ok bool) {
	t.Helper()
	if w, got := c.Kind(kind); w != want || got != ok {
		t.Errorf("Kind(%d): %v, %t; want %v, %t", kind, w, got, want, ok)
	}
}

// P11.2: through a text, by all calls.
func TestCursor(t *testing.T) {
	c := on(t, "insert t ( 5 , 'x' ) ;")
	expectAt(t, c, name("insert", 0), 8)
	expectTake(t, c, false, "t")
	expectTake(t, c, true, "insert")
	expectAt(t, c, name("t", 7), 7)
	expectKind(t, c, lex.Number, lex.Word{}, false)
	expectKind(t, c, lex.Name, name("t", 7), true)
	expectTake(t, c, true, "(")
	expectKind(t, c, lex.Name, lex.Word{}, false)
	expectKind(t, c, lex.Number, number(5, 11), true)
	expectIs(t, c, true, ";", ",")
	expectKind(t, c, lex.Sign, sign(",", 13), true)
	expectKind(t, c, lex.Text, text("x", 15), true)
	expectAt(t, c, sign(")", 19), 2)
	expectTake(t, c, true, ")", ";")
	expectAt(t, c, end(22), 0)
}

// P11.2: is it one of these?
func TestIs(t *testing.T) {
	c := on(t, "where")
	expectIs(t, c, true, "where")
	expectIs(t, c, true, "a", "where", "b")
	expectIs(t, c, true, "where", "where")
	for _, s := range []string{"", "wher", "wheres", "Where", " where", "'where'"} {
		expectIs(t, c, false, s)
	}
	expectIs(t, c, false)
	expectIs(t, c, false, "a", "b")
	expectAt(t, c, name("where", 0), 1)
	expectIs(t, on(t, "<="), true, "<", "<=")
	expectIs(t, on(t, "<="), false, "<", "=")
	// A text's words and numbers aren't.
	expectIs(t, on(t, "'where'"), false, "where", "'where'")
	expectIs(t, on(t, "'('"), false, "(")
	expectIs(t, on(t, "''"), false, "", "''")
	expectIs(t, on(t, "7"), false, "7", "")
	expectIs(t, on(t, ""), false, "", "a")
}

// P11.2: these, one by one, or nothing.
func TestTake(t *testing.T) {
	c := on(t, "a ( b <= c")
	for _, l := range [][]string{{"("}, {"a", "b"}, {"(", "a"}, {"a", "(", "c"}, {"a("}, {""}, {"a", ""}, {"a", "(", "b", "<", "="}, {"a", "(", "b", "<=", "c", "d"}, {"a", "(", "b", "<=", "c", ""}} {
		expectTake(t, c, false, l...)
		expectAt(t, c, name("a", 0), 5)
	}
	expectTake(t, c, true)
	expectAt(t, c, name("a", 0), 5)
	expectTake(t, c, true, "a", "(", "b")
	expectAt(t, c, sign("<=", 6), 2)
	expectTake(t, c, true, "<=", "c")
	expectAt(t, c, end(10), 0)
	expectTake(t, c, true)
	expectTake(t, c, false, "c")
	expectTake(t, c, false, "")
	// A text's words and numbers aren't taken, wherever they stand.
	expectTake(t, on(t, "'a'"), false, "a")
	expectTake(t, on(t, "'a'"), false, "'a'")
	expectTake(t, on(t, "''"), false, "")
	expectTake(t, on(t, "5"), false, "5")
	expectTake(t, on(t, "a 5"), false, "a", "5")
	expectTake(t, on(t, "a 'b' c"), false, "a", "b", "c")
}

// P11.2: the word, if it is of the kind.
func TestKind(t *testing.T) {
	words := []lex.Word{sign("(", 0), number(5, 1), text("it's", 2), name("where", 8)}
	for i, w := range words {
		for _, kind := range []int{math.MinInt, -1, 0, 1, 2, 3, 4, 5, math.MaxInt} {
			c := lex.On(words[i:], 13)
			if kind == w.Kind {
				expectKind(t, c, kind, w, true)
				expectTake(t, c, true)
				if c.Left() != len(words)-i-1 {
					t.Errorf("%d to come", c.Left())
				}
				continue
			}
			expectKind(t, c, kind, lex.Word{}, false)
			expectAt(t, c, w, len(words)-i)
		}
	}
}

// P11.2: behind the last word.
func TestEnd(t *testing.T) {
	for _, at := range []int{math.MinInt, -1, 0, 7, math.MaxInt} {
		c := lex.On([]lex.Word{name("a", 3)}, at)
		expectAt(t, c, name("a", 3), 1)
		expectTake(t, c, true, "a")
		none := lex.On(nil, at)
		for _, c := range []*lex.Cursor{c, none, lex.On([]lex.Word{}, at)} {
			expectAt(t, c, end(at), 0)
			for kind := -1; kind < 6; kind++ {
				expectKind(t, c, kind, lex.Word{}, false)
			}
			expectIs(t, c, false, "", "a")
			expectTake(t, c, false, "a")
			expectTake(t, c, true)
			expectAt(t, c, end(at), 0)
		}
	}
}

// P11.2: of nothing.
func TestNilCursor(t *testing.T) {
	for range 2 {
		var c *lex.Cursor
		expectAt(t, c, end(0), 0)
		expectIs(t, c, false)
		expectIs(t, c, false, "", "a")
		expectTake(t, c, false)
		expectTake(t, c, false, "")
		expectTake(t, c, false, "a")
		for kind := -1; kind < 6; kind++ {
			expectKind(t, c, kind, lex.Word{}, false)
		}
	}
	var c lex.Cursor // not made by On: only that nothing panics
	c.Word()
	c.Is("a")
	c.Take("a")
	c.Kind(lex.Name)
	c.Left()
}

// P11.2: words that no text has are gone through as they are.
func TestOtherWords(t *testing.T) {
	c := lex.On([]lex.Word{{Kind: 9, Text: "a", N: 1, At: -5}, {Kind: -1, Text: "a"}, {}}, 2)
	expectAt(t, c, lex.Word{Kind: 9, Text: "a", N: 1, At: -5}, 3)
	expectIs(t, c, false, "a")
	expectTake(t, c, false, "a")
	expectKind(t, c, 9, lex.Word{Kind: 9, Text: "a", N: 1, At: -5}, true)
	expectKind(t, c, lex.Name, lex.Word{}, false)
	expectKind(t, c, -1, lex.Word{Kind: -1, Text: "a"}, true)
	expectIs(t, c, true, "")
	expectTake(t, c, true, "")
	expectAt(t, c, end(2), 0)
}

// What is handed in is neither changed nor kept.
func TestOnCopies(t *testing.T) {
	l := []lex.Word{name("a", 0), sign("(", 2), name("b", 4), sign(")", 6)}
	c := lex.On(l[:2], 3)
	l[0], l[1] = number(1, 1), number(2, 2)
	expectAt(t, c, name("a", 0), 2)
	expectTake(t, c, true, "a")
	expectAt(t, c, sign("(", 2), 1)
	expectTake(t, c, true, "(")
	expectAt(t, c, end(3), 0)
	if l[0] != number(1, 1) || l[2] != name("b", 4) || l[3] != sign(")", 6) {
		t.Errorf("the words were changed: %v", l)
	}
	texts := []string{"x", "y", "z"}
	other := lex.On([]lex.Word{name("x", 0), name("y", 1)}, 2)
	other.Is(texts[:1]...)
	other.Take(texts[:2]...)
	if texts[0] != "x" || texts[1] != "y" || texts[2] != "z" {
		t.Errorf("the texts were changed: %v", texts)
	}
}

// P11.2: two cursors on the same words go their own ways.
func TestTwoCursors(t *testing.T) {
	l := []lex.Word{name("a", 0), name("b", 1)}
	c, d := lex.On(l, 2), lex.On(l, 9)
	expectTake(t, c, true, "a", "b")
	expectAt(t, d, name("a", 0), 2)
	expectTake(t, d, true, "a")
	expectAt(t, c, end(2), 0)
	expectAt(t, d, name("b", 1), 1)
}

// plain is a list of words, and how many are gone by.
type plain struct {
	words []lex.Word
	at    int
	end   int
}

func (p *plain) word() lex.Word {
	if p.at < len(p.words) {
		return p.words[p.at]
	}
	return end(p.end)
}

func (p *plain) is(text string, ahead int) bool {
	if p.at+ahead >= len(p.words) {
		return false
	}
	w := p.words[p.at+ahead]
	return w.Text == text && w.Kind != lex.Number && w.Kind != lex.Text
}

func (p *plain) take(texts []string) bool {
	for i, s := range texts {
		if !p.is(s, i) {
			return false
		}
	}
	p.at += len(texts)
	return true
}

// P11.2: whatever is asked and taken, as of a plain list.
func TestRandomCursors(t *testing.T) {
	r := rand.New(rand.NewSource(12))
	texts := []string{"a", "b", "(", "7", "x"}
	for range 2000 {
		var l []lex.Word
		for i := range r.Intn(12) {
			l = append(l, []lex.Word{name("a", i), name("b", i), sign("(", i), number(7, i), text("a", i)}[r.Intn(5)])
		}
		p := &plain{words: l, end: r.Intn(50)}
		c := lex.On(l, p.end)
		for range 30 {
			expectAt(t, c, p.word(), len(l)-p.at)
			var some []string
			for range r.Intn(3) {
				some = append(some, texts[r.Intn(len(texts))])
			}
			is := false
			for _, s := range some {
				is = is || p.is(s, 0)
			}
			expectIs(t, c, is, some...)
			expectTake(t, c, p.take(some), some...)
			if kind := r.Intn(5); p.at < len(l) && p.word().Kind == kind {
				expectKind(t, c, kind, p.word(), true)
				p.at++
			} else {
				expectKind(t, c, kind, lex.Word{}, false)
			}
		}
	}
}
