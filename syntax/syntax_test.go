package syntax_test

import (
	"strings"
	"testing"

	"afflux/syntax"
)

const allReserved = "and or not true false let set insert update delete for in where limit if else emit abort reply count sum min max int text bool table stream window sink proc key unique index parts by on from at fuel tuples batches slide"

// P12.1: these words, and no others.
func TestReserved(t *testing.T) {
	for _, s := range strings.Fields(allReserved) {
		if !syntax.Reserved(s) || syntax.Free(s) {
			t.Errorf("%q isn't reserved", s)
		}
		for _, other := range []string{s + "s", s + "_", s + "0", s + " ", " " + s, "x" + s, strings.ToUpper(s), s + "\x00"} {
			if syntax.Reserved(other) {
				t.Errorf("%q is reserved", other)
			}
		}
	}
	for _, s := range []string{"", "a", "x", "row", "mid", "do", "while", "as", "is", "nil", "null", "select", "order", "asc", "func", "return", "var", "then", "end", "into", "values", "group", "avg", "xor", "mod", "div", "off", "to", "of", "part", "batch", "size", "owner", allReserved} {
		if syntax.Reserved(s) {
			t.Errorf("%q is reserved", s)
		}
	}
}

// P12.1: are all names, and not reserved?
func TestFree(t *testing.T) {
	frees := []string{"a", "z", "x1", "a_b", "and_", "lets", "a234567890123456", "texts", "sum1"}
	if !syntax.Free() || !syntax.Free(frees...) {
		t.Error("Free: false")
	}
	for _, s := range frees {
		if !syntax.Free(s) || !syntax.Free(s, s) {
			t.Errorf("Free(%q): false", s)
		}
	}
	for _, s := range noNames {
		if syntax.Free(s) || syntax.Free("a", s) || syntax.Free(s, "a") || syntax.Free("a", s, "b") {
			t.Errorf("Free(%q): true", s)
		}
	}
}
