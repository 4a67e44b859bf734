package seal_test

import (
	"hash/crc64"
	"math/bits"
	"strings"
	"testing"

	"afflux/seal"
)

// byRule is the sum of bytes, bit by bit, as the document tells it.
func byRule(s string) uint64 {
	register := ^uint64(0)
	for _, b := range []byte(s) {
		for bit := range 8 {
			register ^= uint64(b>>bit) & 1
			out := register & 1
			register >>= 1
			if out == 1 {
				register ^= 0xc96c5795d7870f42
			}
		}
	}
	return ^register
}

// texts are bytes of all kinds.
func texts() []string {
	var all strings.Builder
	for b := range 256 {
		all.WriteByte(byte(b))
	}
	out := []string{"", "123456789", "it's", "é", all.String(), strings.Repeat("\x00", 300), strings.Repeat("\xff", 300), strings.Repeat(all.String(), 20)}
	for size := range 20 {
		out = append(out, strings.Repeat("\x00", size), strings.Repeat("\xff", size), all.String()[7*size:8*size])
	}
	return out
}

// P5.1: sums that are written out.
func TestSumsWrittenOut(t *testing.T) {
	for s, want := range map[string]uint64{
		"123456789": 0x995dc9bbdf1939fa, "": 0, "a": 0x330284772e652b05, "\x00": 0x1fada17364673f59,
		"\xff": 0xff00000000000000, "\xff\xff\xff\xff\xff\xff\xff\xff": 0xffffffffffffffff,
	} {
		var sum seal.Sum
		if got := seal.Of(s); got != want {
			t.Errorf("Of(%q): %x; want %x", s, got, want)
		}
		if got := sum.Add(s).Value(); got != want {
			t.Errorf("the Sum of %q: %x; want %x", s, got, want)
		}
	}
}

// P5.1: all texts of up to two bytes, and longer ones.
func TestSumByRule(t *testing.T) {
	l := texts()
	for a := range 256 {
		l = append(l, string([]byte{byte(a)}))
		for b := range 256 {
			l = append(l, string([]byte{byte(a), byte(b)}))
		}
	}
	ecma := crc64.MakeTable(crc64.ECMA)
	for _, s := range l {
		if got := seal.Of(s); got != byRule(s) || got != crc64.Checksum([]byte(s), ecma) {
			t.Errorf("Of(%q): %x; want %x", s, got, byRule(s))
		}
	}
}

// P5.1: several texts are one behind the other, in one call or in many.
func TestSumOfMany(t *testing.T) {
	const s = "one behind\x00\xff the other"
	want := byRule(s)
	for i := range len(s) + 1 {
		for j := i; j <= len(s); j++ {
			a, b, c := s[:i], s[i:j], s[j:]
			var one, many seal.Sum
			many.Add(a).Add(b).Add()
			if mid := many.Value(); mid != byRule(a+b) {
				t.Errorf("the sum of %q: %x", a+b, mid)
			}
			many.Add("", c)
			if seal.Of(a, b, c) != want || one.Add(a, b, c).Value() != want || many.Value() != want {
				t.Errorf("the sum of %q, %q, %q isn't that of %q", a, b, c, s)
			}
		}
	}
	if seal.Of() != 0 || seal.Of("", "") != 0 || seal.Of("ab", "c") == seal.Of("c", "ab") {
		t.Error("the sum of none isn't 0, or the order of texts doesn't count")
	}
}

// P5.1: Add answers the Sum that it adds to; others stay.
func TestAddAnswersIt(t *testing.T) {
	var s, other seal.Sum
	if s.Add() != &s || s.Add("a", "b") != &s || s.Value() != byRule("ab") || other.Value() != 0 {
		t.Errorf("%x, %x", s.Value(), other.Value())
	}
	if s.Value() != s.Value() {
		t.Error("Value changes the Sum")
	}
	half := s
	s.Add("c")
	if half.Value() != byRule("ab") || half.Add("d").Value() != byRule("abd") || s.Value() != byRule("abc") {
		t.Error("a Sum isn't a value")
	}
}

// P5.1.
func TestNilSum(t *testing.T) {
	var s *seal.Sum
	if s.Add() != nil || s.Add("a").Add("b", "") != nil || s.Value() != 0 || s.Add("a").Value() != 0 {
		t.Error("a nil Sum answers another one, or something")
	}
}

// bursts are what turns bits within so many: the bits that are turned, the
// lowest one always, so that each stands for itself.
func bursts() []uint64 {
	out := []uint64{1, ^uint64(0), 0xc96c5795d7870f42 | 1, bits.Reverse64(0xc96c5795d7870f42) | 1, 0x5555555555555555, 0x8000000100000001}
	for bit := 1; bit < 64; bit++ {
		out = append(out, 1|1<<bit, ^uint64(0)>>bit)
	}
	state := uint64(1)
	for range 40 {
		state = state*6364136223846793005 + 1442695040888963407
		out = append(out, state|1)
	}
	return out
}

// turned is s with a burst from the bit at on (a byte's lowest one first), or
// false, if that goes beyond the end.
func turned(s string, at int, burst uint64) (string, bool) {
	if at+bits.Len64(burst) > 8*len(s) {
		return "", false
	}
	b := []byte(s)
	for bit := range 64 {
		if burst>>bit&1 == 1 {
			b[(at+bit)/8] ^= 1 << ((at + bit) % 8)
		}
	}
	return string(b), true
}

// P5.4: a burst changes the sum.
func TestBurstsChangeSum(t *testing.T) {
	for _, s := range []string{"a", "12345678", "123456789", strings.Repeat("\x00", 12), "a text of some\xff bytes\x00"} {
		sum := seal.Of(s)
		for _, burst := range bursts() {
			for at := range 8 * len(s) {
				if spoilt, ok := turned(s, at, burst); ok && seal.Of(spoilt) == sum {
					t.Errorf("%q, with %x turned from %d on, has the same sum", s, burst, at)
				}
			}
		}
	}
}
