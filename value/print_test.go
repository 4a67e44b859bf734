package value_test

import (
	"strings"
	"testing"

	"afflux/api"
	"afflux/value"
)

// P2.3.
func TestPrint(t *testing.T) {
	quotes := strings.Repeat("'", 200)
	for _, c := range []struct {
		v api.Value
		s string
	}{
		{value.Int(0), "0"}, {value.Int(-30), "-30"}, {value.Int(high), "9223372036854775807"}, {value.Int(low), "-9223372036854775808"},
		{value.Text(""), "''"}, {value.Text("a"), "'a'"}, {value.Text("it's"), "'it''s'"}, {value.Text("'"), "''''"}, {value.Text("''"), "''''''"},
		{value.Text("'a"), "'''a'"}, {value.Text("a'"), "'a'''"}, {value.Text("a, b\n\x00\xff\""), "'a, b\n\x00\xff\"'"}, {value.Text("true"), "'true'"}, {value.Text("1"), "'1'"},
		{value.Text(quotes), "'" + quotes + quotes + "'"},
		{value.Bool(true), "true"}, {value.Bool(false), "false"},
	} {
		if s := value.Print(c.v); s != c.s {
			t.Errorf("Print(%v): %q; want %q", c.v, s, c.s)
		}
		if v, e := value.Parse(c.s); v != c.v || e != api.OK {
			t.Errorf("Parse(%q): %v, %d", c.s, v, e)
		}
	}
	for _, v := range wrongs() {
		if s := value.Print(v); s != "" {
			t.Errorf("Print(%v): %q", v, s)
		}
	}
}

// P2.3: there and back.
func TestParsePrint(t *testing.T) {
	for _, v := range rights() {
		if got, e := value.Parse(value.Print(v)); got != v || e != api.OK {
			t.Errorf("Parse(Print(%v)): %v, %d", v, got, e)
		}
	}
}

// P2.3: texts that aren't printed, numbers beyond among them.
func TestParseOfNone(t *testing.T) {
	for _, s := range []string{
		"", " ", "'", "'''", "'a", "a'", "'a''", "''a'", "'a'b'", "'a'b", "'''''", "'a' ", " 'a'", "'a''b''c", "\"a\"", "\x00",
		"tru", "truee", "True", "TRUE", "false ", " true", "a", "'a', 'b'", "1, 2",
		"-", "-0", "00", "01", "+1", " 1", "1 ", "1.5", "9223372036854775808", "-9223372036854775809", strings.Repeat("9", 100),
		"'" + strings.Repeat("a", 201) + "'", "'" + strings.Repeat("''", 201) + "'",
	} {
		if v, e := value.Parse(s); v != (api.Value{}) || e != api.ErrParse {
			t.Errorf("Parse(%q): %v, %d", s, v, e)
		}
	}
}

// P2.3: whatever is turned, put in or cut off, a value is told of its own
// print alone.
func TestParseOfSpoilt(t *testing.T) {
	for _, v := range rights() {
		s := value.Print(v)
		for i := range len(s) + 1 {
			checkParse(t, s[:i])
			checkParse(t, s[i:])
			for _, x := range []string{"'", "0", "-", "a", " ", "\x00"} {
				checkParse(t, s[:i]+x+s[i:])
				if i < len(s) {
					checkParse(t, s[:i]+x+s[i+1:])
				}
			}
		}
	}
}

func checkParse(t *testing.T, s string) {
	t.Helper()
	v, e := value.Parse(s)
	if e == api.OK && (value.Print(v) != s || !value.Right(v)) || e != api.OK && (e != api.ErrParse || v != (api.Value{})) {
		t.Errorf("Parse(%q): %v, %d", s, v, e)
	}
}

// P2.3.
func TestLine(t *testing.T) {
	for _, c := range []struct {
		l []api.Value
		s string
	}{
		{nil, ""},
		{[]api.Value{value.Int(1)}, "1"},
		{[]api.Value{value.Text("it's"), value.Bool(true)}, "'it''s', true"},
		{[]api.Value{value.Int(-1), value.Text(""), value.Text(", "), value.Bool(false)}, "-1, '', ', ', false"},
		{[]api.Value{{}, value.Int(1), {Kind: api.KBool, N: 2}}, ", 1, "},
	} {
		if s := value.Line(c.l...); s != c.s {
			t.Errorf("Line(%v): %q; want %q", c.l, s, c.s)
		}
	}
}
