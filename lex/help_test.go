package lex_test

import (
	"regexp"
	"slices"
	"strconv"
	"strings"
	"testing"

	"afflux/api"
	"afflux/lex"
)

// The words of the tests, each where it stands.

func sign(s string, at int) lex.Word {
	return lex.Word{Kind: lex.Sign, Text: s, At: at}
}

func number(n int64, at int) lex.Word {
	return lex.Word{Kind: lex.Number, Text: strconv.FormatInt(n, 10), N: n, At: at}
}

func text(s string, at int) lex.Word {
	return lex.Word{Kind: lex.Text, Text: s, At: at}
}

func name(s string, at int) lex.Word {
	return lex.Word{Kind: lex.Name, Text: s, At: at}
}

func end(at int) lex.Word {
	return lex.Word{Kind: lex.End, At: at}
}

func expectWords(t *testing.T, s string, want ...lex.Word) {
	t.Helper()
	l, at, e := lex.Words(s)
	if !slices.Equal(l, want) || at != 0 || e != api.OK {
		t.Errorf("Words(%q): %v, %d, %d; want %v", s, l, at, e, want)
	}
}

func expectNone(t *testing.T, s string, wantAt int, wantE api.Errno) {
	t.Helper()
	l, at, e := lex.Words(s)
	if len(l) != 0 || at != wantAt || e != wantE {
		t.Errorf("Words(%.40q): %v, %d, %d; want %d, %d", s, l, at, e, wantAt, wantE)
	}
}

// The words again, by patterns.
var (
	blankForm  = regexp.MustCompile(`^(?:[ \t\n]|//[^\n]*)+`)
	textForm   = regexp.MustCompile(`^'((?:[^'\n]|'')*)'`)
	signForm   = regexp.MustCompile(`^(?:[<!>]=|[(){}\[\],;:.+*/%<=>-])`)
	runForm    = regexp.MustCompile(`^[a-zA-Z0-9_]+`)
	nameForm   = regexp.MustCompile(`^[a-z][a-z0-9_]{0,15}$`)
	numberForm = regexp.MustCompile(`^(?:0|[1-9][0-9]*)$`)
)

// wordsByForms is what Words must answer for s, which isn't too long.
func wordsByForms(s string) ([]lex.Word, int, api.Errno) {
	var l []lex.Word
	for at := 0; at < len(s); {
		if b := blankForm.FindString(s[at:]); b != "" {
			at += len(b)
			continue
		}
		w, size := wordByForms(s[at:])
		if size == 0 {
			return nil, at, api.ErrParse
		}
		w.At = at
		l, at = append(l, w), at+size
	}
	return l, 0, api.OK
}

func wordByForms(s string) (lex.Word, int) {
	if m := textForm.FindStringSubmatch(s); m != nil {
		own := strings.ReplaceAll(m[1], "''", "'")
		if len(own) > 200 || strings.HasPrefix(s[len(m[0]):], "'") {
			return lex.Word{}, 0
		}
		return text(own, 0), len(m[0])
	}
	if m := signForm.FindString(s); m != "" {
		return sign(m, 0), len(m)
	}
	m := runForm.FindString(s)
	if nameForm.MatchString(m) {
		return name(m, 0), len(m)
	}
	if n, err := strconv.ParseInt(m, 10, 64); err == nil && numberForm.MatchString(m) {
		return number(n, 0), len(m)
	}
	return lex.Word{}, 0
}

func checkByForms(t *testing.T, s string) {
	t.Helper()
	l, at, e := lex.Words(s)
	wantL, wantAt, wantE := wordsByForms(s)
	if !slices.Equal(l, wantL) || at != wantAt || e != wantE {
		t.Errorf("Words(%q): %v, %d, %d; want %v, %d, %d", s, l, at, e, wantL, wantAt, wantE)
	}
}
