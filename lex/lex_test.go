package lex_test

import (
	"math"
	"math/rand"
	"strings"
	"testing"

	"afflux/api"
	"afflux/lex"
)

const allSigns = "( ) { } [ ] , ; : . + - * / % < <= = != >= >"

// The kinds as the document counts them.
func TestKinds(t *testing.T) {
	if lex.Sign != 0 || lex.Number != 1 || lex.Text != 2 || lex.Name != 3 || lex.End != 4 {
		t.Error(lex.Sign, lex.Number, lex.Text, lex.Name, lex.End)
	}
}

// P11.1: the document's example, and others.
func TestWords(t *testing.T) {
	expectWords(t, "a>='it''s'", name("a", 0), sign(">=", 1), text("it's", 3))
	expectWords(t, "")
	expectWords(t, "0", number(0, 0))
	expectWords(t, "12 7", number(12, 0), number(7, 3))
	expectWords(t, "-5", sign("-", 0), number(5, 1))
	expectWords(t, "1.2", number(1, 0), sign(".", 1), number(2, 2))
	expectWords(t, "r.a_1", name("r", 0), sign(".", 1), name("a_1", 2))
	expectWords(t, "a1b_", name("a1b_", 0))
	expectWords(t, "let x = y%2;", name("let", 0), name("x", 4), sign("=", 6), name("y", 8), sign("%", 9), number(2, 10), sign(";", 11))
	expectWords(t, "t[3]", name("t", 0), sign("[", 1), number(3, 2), sign("]", 3))
	expectWords(t, "x'y'z5'6'", name("x", 0), text("y", 1), name("z5", 4), text("6", 6))
	expectWords(t, "7'7'7", number(7, 0), text("7", 1), number(7, 4))
}

// P11.1: the longest sign that can be.
func TestSigns(t *testing.T) {
	for _, s := range strings.Fields(allSigns) {
		expectWords(t, s, sign(s, 0))
		expectWords(t, "a"+s+"1", name("a", 0), sign(s, 1), number(1, 1+len(s)))
	}
	expectWords(t, "<==", sign("<=", 0), sign("=", 2))
	expectWords(t, "=<=", sign("=", 0), sign("<=", 1))
	expectWords(t, "==", sign("=", 0), sign("=", 1))
	expectWords(t, "=>", sign("=", 0), sign(">", 1))
	expectWords(t, "<>", sign("<", 0), sign(">", 1))
	expectWords(t, ">>=", sign(">", 0), sign(">=", 1))
	expectWords(t, "< =", sign("<", 0), sign("=", 2))
	expectWords(t, "!=!=", sign("!=", 0), sign("!=", 2))
	expectWords(t, "/ /", sign("/", 0), sign("/", 2))
	expectWords(t, "--", sign("-", 0), sign("-", 1))
}

// P11.1: texts are the prints of texts on one line.
func TestTexts(t *testing.T) {
	expectWords(t, "''", text("", 0))
	expectWords(t, "''''", text("'", 0))
	expectWords(t, "'a''b'", text("a'b", 0))
	expectWords(t, "'''a'''", text("'a'", 0))
	expectWords(t, "'a'''b", text("a'", 0), name("b", 5))
	expectWords(t, "'a' 'b'", text("a", 0), text("b", 4))
	expectWords(t, "'' ''", text("", 0), text("", 3))
	expectWords(t, "'// a'", text("// a", 0))
	expectWords(t, "' \t\r\x00\xff\u00e4 '", text(" \t\r\x00\xff\u00e4 ", 0))
	expectWords(t, "'\"\\n'", text("\"\\n", 0))
	long := strings.Repeat("x", 200)
	expectWords(t, "'"+long+"'", text(long, 0))
	expectNone(t, "'"+long+"x'", 0, api.ErrParse)
	expectWords(t, "'"+strings.Repeat("''", 200)+"'", text(strings.Repeat("'", 200), 0))
	expectNone(t, "'"+strings.Repeat("''", 201)+"'", 0, api.ErrParse)
	expectNone(t, " '"+long+"''"+long+"'", 1, api.ErrParse)
}

// P11.1: blanks, and what counts as one.
func TestBlanks(t *testing.T) {
	expectWords(t, " \t\n ")
	expectWords(t, "// all of it")
	expectWords(t, "//")
	expectWords(t, "//\n")
	expectWords(t, " \t\na\n", name("a", 3))
	expectWords(t, "a//b\nc", name("a", 0), name("c", 5))
	expectWords(t, "a // '\n b", name("a", 0), name("b", 8))
	expectWords(t, "a /// A! \xff\n\n// again\nb", name("a", 0), name("b", 21))
	expectWords(t, "a/b//", name("a", 0), sign("/", 1), name("b", 2))
	expectWords(t, "4//4", number(4, 0))
	expectWords(t, "'a'//'b'", text("a", 0))
	expectWords(t, "//\r\na", name("a", 4))
}

// P11.1: edges of numbers and names.
func TestEdges(t *testing.T) {
	expectWords(t, "9223372036854775807", number(math.MaxInt64, 0))
	expectNone(t, "9223372036854775808", 0, api.ErrParse)
	expectNone(t, "-9223372036854775808", 1, api.ErrParse)
	expectNone(t, "18446744073709551617", 0, api.ErrParse)
	expectNone(t, "a+"+strings.Repeat("9", 300), 2, api.ErrParse)
	expectWords(t, "a234567890123456", name("a234567890123456", 0))
	expectNone(t, "a2345678901234567", 0, api.ErrParse)
	expectNone(t, "b a_______________z", 2, api.ErrParse)
}

// P11.1: where no word can stand.
func TestNoWords(t *testing.T) {
	for _, c := range []struct {
		s  string
		at int
	}{
		{"!", 0}, {"a!b", 1}, {"! =", 0}, {"=!", 1}, {"!==!", 3},
		{"A", 0}, {"_", 0}, {"_a", 0}, {"x A", 2}, {"\"a\"", 0}, {"a#", 1}, {"a\r\n", 1}, {"\x00", 0}, {"1\x00", 1},
		{"\u00e4", 0}, {"a\u00e4", 1}, {"1\u0661", 1}, {"\xff", 0}, {"a \x80", 2}, {"a&b", 1}, {"a|b", 1}, {"a^b", 1}, {"~a", 0}, {"a?", 1}, {"@", 0}, {"$a", 0}, {"`", 0}, {"\\", 0}, {"\v", 0}, {"\f", 0},
		{"00", 0}, {"007", 0}, {"1 01", 2}, {"-00", 1}, {"0x1", 0}, {"1e3", 0}, {"1_000", 0}, {"12ab", 0}, {"1A", 0}, {"9_", 0}, {"5a.b", 0}, {"(3x)", 1},
		{"aB", 0}, {"camelCase", 0}, {"ok aB", 3}, {"abcdefghijklmnopq", 0}, {"abcdefghijklmnopQ", 0},
		{"'", 0}, {"'a", 0}, {"a 'b", 2}, {"'a\n'", 0}, {"'a\nb'", 0}, {"'a'\n'b", 4}, {"'''", 0}, {"'a''", 0}, {"'a''b", 0}, {"'a''''b", 0}, {"'a''\n'", 0}, {"'a' '", 4}, {"'\n", 0}, {"'' '", 3},
		{"a // b\nC", 7}, {"a\n// b\n!", 7}, {"/'", 1},
	} {
		expectNone(t, c.s, c.at, api.ErrParse)
		expectNone(t, "a\n"+c.s, c.at+2, api.ErrParse)
		expectNone(t, c.s+"\n!", c.at, api.ErrParse)
	}
}

// P11.1: a text that is too long, whatever else it is.
func TestTooLong(t *testing.T) {
	expectWords(t, strings.Repeat(" ", 7999)+"a", name("a", 7999))
	expectWords(t, strings.Repeat("//", 4000))
	expectNone(t, strings.Repeat(" ", 8001), 0, api.ErrLong)
	expectNone(t, strings.Repeat("!", 8000), 0, api.ErrParse)
	expectNone(t, strings.Repeat("!", 8001), 0, api.ErrLong)
	expectNone(t, "a !"+strings.Repeat("x", 7998), 0, api.ErrLong)
	expectNone(t, strings.Repeat("a\n", 1<<20), 0, api.ErrLong)
	l, at, e := lex.Words(strings.Repeat("(", 8000))
	if len(l) != 8000 || l[7999] != sign("(", 7999) || at != 0 || e != api.OK {
		t.Errorf("%d words, %d, %d", len(l), at, e)
	}
}

// P11.1: all bytes, alone and behind others.
func TestBytes(t *testing.T) {
	for c := range 256 {
		b := string([]byte{byte(c)})
		for _, s := range []string{b, "a" + b, "1" + b, "'" + b, "<" + b, "!" + b, "/" + b, " " + b, "'" + b + "'", "a" + b + "a", "//" + b + "a"} {
			checkByForms(t, s)
		}
	}
}

// P11.1: all texts of up to six telling bytes.
func TestShortTexts(t *testing.T) {
	var try func(s string, more int)
	try = func(s string, more int) {
		checkByForms(t, s)
		if more == 0 || t.Failed() {
			return
		}
		for _, c := range "a0A'=</\n " {
			try(s+string(c), more-1)
		}
	}
	try("", 6)
}

// P11.1: pieces of all kinds, side by side.
func TestRandomTexts(t *testing.T) {
	pieces := append(strings.Fields(allSigns), " ", "\t", "\n", "// no word ' !\n", "a", "where", "x_9", "abcdefghijklmno", "0", "10", "922337203685477580", "'", "''", "'a'", "'it''s'", "!", "Z", "_", "\xc3")
	r := rand.New(rand.NewSource(11))
	for range 20000 {
		s := ""
		for range r.Intn(9) {
			s += pieces[r.Intn(len(pieces))]
		}
		checkByForms(t, s)
	}
}

// P11.1: what is answered is new memory.
func TestWordsAreNew(t *testing.T) {
	first, _, _ := lex.Words("a b")
	first[0] = sign("(", 9)
	expectWords(t, "a b", name("a", 0), name("b", 2))
}
