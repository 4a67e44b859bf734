package value

import (
	"strings"

	"afflux/api"
	"afflux/calc"
)

const (
	quote   = "'"
	doubled = quote + quote
	yes     = "true"
	no      = "false"
)

// Print is a value's print.
func Print(v api.Value) string {
	if !right(v) {
		return ""
	}
	switch v {
	case Bool(true):
		return yes
	case Bool(false):
		return no
	}
	if v.Kind == api.KText {
		return quote + strings.ReplaceAll(v.S, quote, doubled) + quote
	}
	return calc.Print(v.N)
}

// Parse is the value of a print.
func Parse(s string) (api.Value, api.Errno) {
	switch s {
	case yes:
		return Bool(true), api.OK
	case no:
		return Bool(false), api.OK
	}
	if strings.HasPrefix(s, quote) {
		return parseText(s)
	}
	n, e := calc.Parse(s)
	if e != api.OK {
		return api.Value{}, api.ErrParse
	}
	return Int(n), api.OK
}

// parseText holds s against what the text within is printed as: a quote that
// isn't doubled, or one that is missing, doesn't come back.
func parseText(s string) (api.Value, api.Errno) {
	inner := strings.TrimSuffix(strings.TrimPrefix(s, quote), quote)
	v := Text(strings.ReplaceAll(inner, doubled, quote))
	if Print(v) != s {
		return api.Value{}, api.ErrParse
	}
	return v, api.OK
}

// Line is the prints of values.
func Line(l ...api.Value) string {
	prints := make([]string, len(l))
	for i, v := range l {
		prints[i] = Print(v)
	}
	return strings.Join(prints, ", ")
}
