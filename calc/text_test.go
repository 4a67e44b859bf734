package calc_test

import (
	"math/big"
	"strings"
	"testing"

	"afflux/api"
	"afflux/calc"
)

// P1.4.
func TestParse(t *testing.T) {
	nines := strings.Repeat("9", 400)
	for _, c := range []struct {
		s string
		n int64
		e api.Errno
	}{
		{"0", 0, api.OK}, {"7", 7, api.OK}, {"-7", -7, api.OK}, {"10", 10, api.OK}, {"-100", -100, api.OK},
		{"1234567890", 1234567890, api.OK},
		{"9223372036854775807", high, api.OK}, {"-9223372036854775807", low + 1, api.OK}, {"-9223372036854775808", low, api.OK},
		{"9223372036854775808", 0, api.ErrRange}, {"-9223372036854775809", 0, api.ErrRange},
		{"9999999999999999999", 0, api.ErrRange}, {"-9999999999999999999", 0, api.ErrRange},
		{"10000000000000000000", 0, api.ErrRange}, {"18446744073709551616", 0, api.ErrRange}, {"18446744073709551617", 0, api.ErrRange},
		{nines, 0, api.ErrRange}, {"-" + nines, 0, api.ErrRange},
		{nines + "x", 0, api.ErrParse}, {"0" + nines, 0, api.ErrParse}, {"-0" + nines, 0, api.ErrParse},
		{"", 0, api.ErrParse}, {"-", 0, api.ErrParse}, {"--1", 0, api.ErrParse}, {"+1", 0, api.ErrParse}, {"-0", 0, api.ErrParse},
		{"00", 0, api.ErrParse}, {"007", 0, api.ErrParse}, {"-07", 0, api.ErrParse}, {"1-", 0, api.ErrParse}, {"-a", 0, api.ErrParse},
		{" 1", 0, api.ErrParse}, {"1 ", 0, api.ErrParse}, {"1\n", 0, api.ErrParse}, {"1\x00", 0, api.ErrParse}, {"1_000", 0, api.ErrParse},
		{"0x1", 0, api.ErrParse}, {"1e3", 0, api.ErrParse}, {"1.0", 0, api.ErrParse}, {"a", 0, api.ErrParse}, {"/", 0, api.ErrParse}, {":", 0, api.ErrParse},
		{"\u0661", 0, api.ErrParse}, {"\xff", 0, api.ErrParse},
	} {
		if n, e := calc.Parse(c.s); n != c.n || e != c.e {
			t.Errorf("Parse(%q): %d, %d; want %d, %d", c.s, n, e, c.n, c.e)
		}
	}
}

// P1.4: there and back, and nothing but that.
func TestPrint(t *testing.T) {
	for _, n := range edges {
		s := calc.Print(n)
		if want := big.NewInt(n).String(); s != want {
			t.Errorf("Print(%d): %q", n, s)
		}
		if m, e := calc.Parse(s); m != n || e != api.OK {
			t.Errorf("Parse(%q): %d, %d", s, m, e)
		}
	}
}
