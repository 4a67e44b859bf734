package calc

import (
	"strconv"
	"strings"

	"afflux/api"
)

// Parse is the number of a text.
func Parse(s string) (int64, api.Errno) {
	digits, below := strings.CutPrefix(s, "-")
	if !numeral(digits) || below && digits == "0" {
		return 0, api.ErrParse
	}
	size, err := strconv.ParseUint(digits, 10, 64)
	if err != nil { // digits alone fail for one thing only
		return 0, api.ErrRange
	}
	return signed(size, below)
}

// numeral tells whether s is decimal digits, with no 0 ahead of others.
func numeral(s string) bool {
	if s == "" || s[0] == '0' && s != "0" {
		return false
	}
	for _, c := range []byte(s) {
		if c < '0' || c > '9' {
			return false
		}
	}
	return true
}

// Print is a number's text.
func Print(n int64) string {
	return strconv.FormatInt(n, 10)
}
