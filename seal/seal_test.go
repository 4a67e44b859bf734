package seal_test

import (
	"slices"
	"strings"
	"testing"

	"afflux/seal"
)

const most = 65536

// frame is the frame of s, as the document tells it.
func frame(s string) string {
	size := len(s)
	summed := string([]byte{byte(size >> 24), byte(size >> 16), byte(size >> 8), byte(size)}) + s
	return summed + tailOf(summed)
}

// tailOf is the sum of s, as a frame has it.
func tailOf(s string) string {
	sum, out := byRule(s), []byte(nil)
	for i := range 8 {
		out = append(out, byte(sum>>(8*i)))
	}
	return string(out)
}

func expectFrame(t *testing.T, want string, l ...string) {
	t.Helper()
	got, ok := seal.Frame(l...)
	if got != want || !ok {
		t.Errorf("Frame of %d texts: %d bytes, %t; want %d bytes", len(l), len(got), ok, len(want))
	}
}

func expectOpen(t *testing.T, s, body string, size, what int) {
	t.Helper()
	if b, n, w := seal.Open(s); b != body || n != size || w != what {
		t.Errorf("Open of %.40x (%d bytes): %.40q, %d, %d; want %.40q, %d, %d", s, len(s), b, n, w, body, size, what)
	}
}

// The document's names for what a frame is.
func TestNames(t *testing.T) {
	if seal.MaxBody != most || seal.Whole != 0 || seal.Short != 1 || seal.Bad != 2 {
		t.Errorf("%d, %d, %d, %d", seal.MaxBody, seal.Whole, seal.Short, seal.Bad)
	}
}

// P5.2: frames, byte by byte.
func TestFramesWrittenOut(t *testing.T) {
	expectFrame(t, "\x00\x00\x00\x00"+"\x4b\x9f\x1b\x1e\x35\x86\xa5\xf4")
	expectFrame(t, "\x00\x00\x00\x02ab"+"\x69\xe6\xee\xc9\xf1\xd5\x56\xd1", "ab")
}

// P5.2: several texts are one behind the other.
func TestFrame(t *testing.T) {
	for _, s := range texts() {
		want := frame(s)
		expectFrame(t, want, s)
		expectFrame(t, want, "", s[:len(s)/3], s[len(s)/3:len(s)/2], "", s[len(s)/2:])
		if len(want) != len(s)+12 {
			t.Errorf("a frame of %d bytes has %d", len(s), len(want))
		}
		expectOpen(t, want, s, len(want), seal.Whole)
		expectOpen(t, want+"behind", s, len(want), seal.Whole)
		expectOpen(t, want+want, s, len(want), seal.Whole)
	}
	expectFrame(t, frame(""))
	expectFrame(t, frame(""), "", "")
}

// P5.2: at most MaxBody bytes, however many texts they are.
func TestFrameOfMost(t *testing.T) {
	full := strings.Repeat("abcdefgh", most/8)
	want := frame(full)
	expectFrame(t, want, full)
	expectFrame(t, want, full[:1], full[1:most-1], full[most-1:], "", "")
	expectFrame(t, want, slices.Repeat([]string{"abcdefgh"}, most/8)...)
	expectOpen(t, want+"x", full, most+12, seal.Whole)
	for _, l := range [][]string{
		{full + "x"}, {full, "x"}, {"x", full}, {full[1:], "x", "y"}, {"", full + full, ""}, {full, full},
		slices.Repeat([]string{"abcdefgh"}, most/8+1), {full, "", "x"},
	} {
		if s, ok := seal.Frame(l...); s != "" || ok {
			t.Errorf("Frame of too many bytes: %d bytes, %t", len(s), ok)
		}
	}
}

// P5.2: fewer than four bytes are Short, whatever they are.
func TestOpenWithoutHead(t *testing.T) {
	for _, s := range []string{"", "\x00", "\xff", "\x00\x00", "\x00\x01\x00", "\xff\xff\xff"} {
		expectOpen(t, s, "", 0, seal.Short)
	}
}

// P5.2: what tells too many bytes is Bad, before it is Short.
func TestOpenOfTooMany(t *testing.T) {
	long := strings.Repeat("a", most+100)
	for _, head := range []string{"\x00\x01\x00\x01", "\x00\x01\x01\x00", "\x00\x02\x00\x00", "\x01\x00\x00\x00", "\x01\x00\x00\x01", "\x80\x00\x00\x00", "\xff\xff\xff\xff"} {
		for _, rest := range []string{"", "a", strings.Repeat("\x00", 8), long} {
			expectOpen(t, head+rest, "", 0, seal.Bad)
		}
	}
	over := "\x00\x01\x00\x01" + long[:most+1]
	expectOpen(t, over+tailOf(over), "", 0, seal.Bad)
	expectOpen(t, "\x00\x01\x00\x00", "", 0, seal.Short)
	expectOpen(t, "\x00\x01\x00\x00"+long[:most+7], "", 0, seal.Short)
	expectOpen(t, "\x00\x01\x00\x00"+long[:most+8], "", 0, seal.Bad)
}

// P5.2: the sum of the body alone, one the other way round, and others.
func TestOpenOfWrongSum(t *testing.T) {
	const summed = "\x00\x00\x00\x02ab"
	good := []byte(tailOf(summed))
	slices.Reverse(good)
	for _, tail := range []string{string(good), tailOf("ab"), strings.Repeat("\x00", 8), strings.Repeat("\xff", 8)} {
		expectOpen(t, summed+tail, "", 0, seal.Bad)
		expectOpen(t, summed+tail+frame("ab"), "", 0, seal.Bad)
		expectOpen(t, summed+tail[:7], "", 0, seal.Short)
	}
	expectOpen(t, "x"+frame("ab"), "", 0, seal.Bad)
	expectOpen(t, strings.Repeat("\x00", 12), "", 0, seal.Bad)
	expectOpen(t, strings.Repeat("\x00", 11), "", 0, seal.Short)
}

func expectAll(t *testing.T, s string, bodies []string, size, what int) {
	t.Helper()
	if l, n, w := seal.All(s); !slices.Equal(l, bodies) || n != size || w != what {
		t.Errorf("All of %.40x (%d bytes): %.40q, %d, %d; want %.40q, %d, %d", s, len(s), l, n, w, bodies, size, what)
	}
}

// P5.3.
func TestAll(t *testing.T) {
	expectAll(t, "", nil, 0, seal.Whole)
	var bodies []string
	s := ""
	for _, body := range append(texts(), strings.Repeat("z", most)) {
		bodies, s = append(bodies, body), s+frame(body)
		expectAll(t, s, bodies, len(s), seal.Whole)
	}
}

// P5.3: why the next one isn't whole; what stands behind isn't told.
func TestAllUpToFault(t *testing.T) {
	bad := "\x00\x00\x00\x01a" + strings.Repeat("\x00", 8)
	for _, bodies := range [][]string{nil, {"a"}, {"", "it's", ""}} {
		s := ""
		for _, body := range bodies {
			s += frame(body)
		}
		for next, what := range map[string]int{
			"\x00": seal.Short, "\xff\xff\xff": seal.Short, "\x00\x00\x00\x00": seal.Short, "\x00\x01\x00\x00" + frame("a"): seal.Short, frame("ab")[:13]: seal.Short,
			"\xff\xff\xff\xff": seal.Bad, "\x00\x01\x00\x01" + frame("a"): seal.Bad, bad: seal.Bad, bad + frame("a"): seal.Bad, "a" + frame("a"): seal.Bad,
		} {
			expectAll(t, s+next, bodies, len(s), what)
		}
	}
}

// What is answered is new memory.
func TestAllIsNew(t *testing.T) {
	s := frame("a") + frame("b")
	l, _, _ := seal.All(s)
	l[0] = "c"
	expectAll(t, s, []string{"a", "b"}, len(s), seal.Whole)
}

// What is handed in stays, its spare room, too.
func TestHandedInStays(t *testing.T) {
	l := []string{"a", "b", "c"}
	var s seal.Sum
	s.Add(l[:2]...)
	seal.Of(l[:2]...)
	seal.Frame(l[:2]...)
	if !slices.Equal(l, []string{"a", "b", "c"}) {
		t.Errorf("%q", l)
	}
}

// P5.4: behind the first four bytes, in what is framed, in the sum, and across
// both.
func TestBurstsAreTold(t *testing.T) {
	for _, body := range []string{"", "a", "12345678", "a text of some\xff bytes\x00"} {
		whole := frame(body)
		for _, burst := range bursts() {
			for at := 32; at < 8*len(whole); at++ {
				spoilt, ok := turned(whole, at, burst)
				if !ok {
					break
				}
				expectOpen(t, spoilt, "", 0, seal.Bad)
				expectOpen(t, spoilt+whole, "", 0, seal.Bad)
			}
		}
	}
}

// P5.4.
func TestBeginningIsShort(t *testing.T) {
	for _, body := range texts() {
		whole, ahead := frame(body), frame("ahead")
		for size := range len(whole) {
			expectOpen(t, whole[:size], "", 0, seal.Short)
			if size > 0 {
				expectAll(t, ahead+whole[:size], []string{"ahead"}, len(ahead), seal.Short)
			}
		}
	}
}
