package value

import (
	"strings"

	"afflux/api"
)

// topBit added to a number puts those below 0 ahead of the others, byte by
// byte.
const topBit = 1 << 63

// Behind a 00 of a text stands textMore, behind its last byte 00 and textEnd:
// the lower one, so that a text stands ahead of those that it begins.
const (
	textEnd  = 0x01
	textMore = 0xff
)

// Key is a row's key.
func Key(l ...api.Value) string {
	if !Right(l...) {
		return ""
	}
	var key []byte
	for _, v := range l {
		key = appendKey(key, v)
	}
	return string(key)
}

func appendKey(key []byte, v api.Value) []byte {
	key = append(key, byte(v.Kind))
	switch v.Kind {
	case api.KInt:
		return appendNumber(key, v.N)
	case api.KText:
		return appendText(key, v.S)
	}
	return append(key, byte(v.N))
}

func appendNumber(key []byte, n int64) []byte {
	u := uint64(n) ^ topBit
	for shift := 56; shift >= 0; shift -= 8 {
		key = append(key, byte(u>>shift))
	}
	return key
}

func appendText(key []byte, s string) []byte {
	for _, c := range []byte(s) {
		key = append(key, c)
		if c == 0 {
			key = append(key, textMore)
		}
	}
	return append(key, 0, textEnd)
}

// Unkey is the row of a key.
func Unkey(s string) ([]api.Value, bool) {
	var row []api.Value
	for s != "" {
		v, rest, ok := cutKey(s)
		if !ok || !right(v) {
			return nil, false
		}
		row, s = append(row, v), rest
	}
	return row, true
}

// cutKey is the value whose key s, that isn't empty, begins with, and what
// stands behind.
func cutKey(s string) (api.Value, string, bool) {
	kind, s := s[0], s[1:]
	switch {
	case kind == api.KInt && len(s) >= 8:
		return Int(number(s[:8])), s[8:], true
	case kind == api.KText:
		return cutText(s)
	case kind == api.KBool && s != "":
		return api.Value{Kind: api.KBool, N: int64(s[0])}, s[1:], true
	}
	return api.Value{}, "", false
}

func number(s string) int64 {
	u := uint64(0)
	for _, c := range []byte(s) {
		u = u<<8 | uint64(c)
	}
	return int64(u ^ topBit)
}

func cutText(s string) (api.Value, string, bool) {
	var text strings.Builder
	for {
		part, rest, ok := strings.Cut(s, "\x00")
		if !ok || rest == "" {
			return api.Value{}, "", false
		}
		text.WriteString(part)
		switch rest[0] {
		case textEnd:
			return Text(text.String()), rest[1:], true
		case textMore:
			text.WriteByte(0)
			s = rest[1:]
		default:
			return api.Value{}, "", false
		}
	}
}
