package codec_test

import (
	"math"
	"math/big"
	"slices"
	"strings"
	"testing"

	"afflux/api"
	"afflux/codec"
	"afflux/value"
)

// expectBad: the reader answers nothing any more, whatever it is asked.
func expectBad(t *testing.T, r *codec.Reader) {
	t.Helper()
	if r.Good() || r.End() || r.Len() != 0 || r.String() != "" || r != nil && (r.Bytes.Len() != 0 || r.Bytes.String() != "") {
		t.Errorf("Good: %t, End: %t, %d, %q", r.Good(), r.End(), r.Len(), r.String())
	}
	n, k, s, v, row, rows := r.Size(high), r.Signed(), r.Text(high), r.Value(), r.Row(high), r.Rows(high, high)
	if n != 0 || k != 0 || s != "" || v != (api.Value{}) || len(row) != 0 || len(rows) != 0 {
		t.Errorf("a bad reader answers %d, %d, %q, %v, %v, %v", n, k, s, v, row, rows)
	}
	r.Fail()
	if r.Good() || r.End() || r.Len() != 0 {
		t.Error("a bad reader is good again")
	}
}

// a taking is one of a Reader's calls; it tells whether that answered nothing.
type taking struct {
	name string
	take func(r *codec.Reader) bool
}

func takings() []taking {
	return []taking{
		{"Size", func(r *codec.Reader) bool { return r.Size(high) == 0 }},
		{"Size of at most 300", func(r *codec.Reader) bool { return r.Size(300) == 0 }},
		{"Signed", func(r *codec.Reader) bool { return r.Signed() == 0 }},
		{"Text", func(r *codec.Reader) bool { return r.Text(high) == "" }},
		{"Text of at most 2", func(r *codec.Reader) bool { return r.Text(2) == "" }},
		{"Value", func(r *codec.Reader) bool { return r.Value() == api.Value{} }},
		{"Row", func(r *codec.Reader) bool { return len(r.Row(high)) == 0 }},
		{"Row of at most 1", func(r *codec.Reader) bool { return len(r.Row(1)) == 0 }},
		{"Rows", func(r *codec.Reader) bool { return len(r.Rows(high, high)) == 0 }},
		{"Rows of at most 2 of 1", func(r *codec.Reader) bool { return len(r.Rows(2, 1)) == 0 }},
	}
}

// expectRefused: of s that call answers nothing, and the reader is bad.
func expectRefused(t *testing.T, s string, take func(r *codec.Reader) bool) {
	t.Helper()
	r := codec.Read(s)
	if !take(r) || r.Good() {
		t.Errorf("of %x something is taken", s)
	}
	expectBad(t, r)
}

// P4.1, P4.3.
func TestReaderAtBeginning(t *testing.T) {
	for _, s := range texts() {
		r := codec.Read(s)
		if !r.Good() || r.End() != (s == "") || r.Len() != len(s) || r.String() != s || r.Bytes.Len() != len(s) || r.Bytes.String() != s {
			t.Errorf("Read(%q): %t, %t, %d, %q", s, r.Good(), r.End(), r.Len(), r.String())
		}
	}
}

// P4.1, P4.3: each call goes behind what it takes.
func TestReaderGoesOn(t *testing.T) {
	s := "\x02\x01\x2c" + "\x01\x01" + "\x01\x02ab" + "\x03\x01" + "\x01\x02\x01\x01\x02\x03\x01" + "\x01\x02\x00\x01\x01\x03\x00" + "tail"
	r := codec.Read(s)
	one, yes, no := value.Int(1), value.Bool(true), value.Bool(false)
	for i, step := range []struct {
		good bool
		goes int
	}{
		{r.Size(300) == 300, 3}, {r.Signed() == -1, 2}, {r.Text(2) == "ab", 4}, {r.Value() == yes, 2},
		{slices.Equal(r.Row(2), []api.Value{one, yes}), 7}, {sameRows(r.Rows(2, 1), [][]api.Value{nil, {no}}), 7},
	} {
		s = s[step.goes:]
		if !step.good || !r.Good() {
			t.Errorf("step %d isn't good", i)
		}
	}
	if r.String() != s || s != "tail" || r.Len() != 4 || r.Bytes.String() != s || r.Bytes.Len() != 4 || r.End() {
		t.Errorf("%q, %d", r.String(), r.Len())
	}
}

// P4.1: what is to come, call by call.
func TestReaderLeft(t *testing.T) {
	r := codec.Read("\x01\x05\x00\x01\x01x")
	for _, want := range []string{"\x01\x05\x00\x01\x01x", "\x00\x01\x01x", "\x01\x01x"} {
		if r.String() != want || r.Len() != len(want) || r.End() {
			t.Errorf("%x; want %x", r.String(), want)
		}
		if want != "\x01\x01x" {
			r.Size(5)
		}
	}
	if s := r.Text(1); s != "x" || !r.End() || r.Len() != 0 || r.String() != "" || !r.Good() {
		t.Errorf("%q, %t", s, r.End())
	}
}

// P4.3: at most so much.
func TestSizeOfAtMost(t *testing.T) {
	for _, n := range sizes() {
		for _, most := range []int{low, -1, 0, 1, 255, 256, n - 1, n, high} {
			r := codec.Read(size(n))
			got := r.Size(most)
			if n <= most && (got != n || !r.End()) {
				t.Errorf("Size of %d of at most %d: %d, %t", n, most, got, r.End())
			}
			if n > most {
				if got != 0 {
					t.Errorf("Size of %d of at most %d: %d", n, most, got)
				}
				expectBad(t, r)
			}
		}
	}
}

// P4.3: bytes that are no size.
func TestSizeOfNone(t *testing.T) {
	for _, s := range []string{
		"", "\x01", "\x02\x01", "\x08\x01\x01\x01\x01\x01\x01\x01",
		"\x01\x00", "\x02\x00\x01", "\x02\x00\x00", "\x08\x00\x01\x01\x01\x01\x01\x01\x01", "\x01\x00\x00", "\x02\x00\x01\x00",
		"\x08\x80\x00\x00\x00\x00\x00\x00\x00", "\x08\xff\xff\xff\xff\xff\xff\xff\xff",
		"\x09\x01\x01\x01\x01\x01\x01\x01\x01\x01", "\x09\x00\x01\x01\x01\x01\x01\x01\x01\x01", "\x10" + strings.Repeat("\x01", 16),
		"\xff" + strings.Repeat("\x01", 255), "\x80" + strings.Repeat("\x00", 128),
	} {
		for _, l := range takings() {
			if strings.HasPrefix(l.name, "Value") || l.name == "Signed" {
				continue
			}
			expectRefused(t, s, l.take)
		}
	}
}

// P4.3.
func TestSigned(t *testing.T) {
	for s, want := range map[string]int64{
		"\x00": 0, "\x01\x01": -1, "\x01\x02": 1, "\x01\xff": -128, "\x02\x01\x00": 128,
		"\x08\x80\x00\x00\x00\x00\x00\x00\x00": 1 << 62, "\x08\xff\xff\xff\xff\xff\xff\xff\xfe": high, "\x08\xff\xff\xff\xff\xff\xff\xff\xff": low,
	} {
		r := codec.Read(s)
		if n := r.Signed(); n != want || !r.End() {
			t.Errorf("Signed of %x: %d, %t; want %d", s, n, r.End(), want)
		}
	}
	for _, s := range []string{"", "\x01", "\x01\x00", "\x02\x00\x01", "\x08\x01", "\x09\x01\x00\x00\x00\x00\x00\x00\x00\x00", "\x09" + strings.Repeat("\x00", 9), "\xff" + strings.Repeat("\xff", 255)} {
		expectRefused(t, s, func(r *codec.Reader) bool { return r.Signed() == 0 })
	}
}

// P4.3: at most so many bytes, and as many as are said to be there.
func TestTextOfAtMost(t *testing.T) {
	for _, s := range texts() {
		bytes := laid(func(w *codec.Writer) { w.Text(s) })
		for _, most := range []int{len(s), len(s) + 1, high} {
			r := codec.Read(bytes + "b")
			if got := r.Text(most); got != s || r.String() != "b" {
				t.Errorf("Text of %q of at most %d: %q", s, most, got)
			}
		}
		for _, most := range []int{len(s) - 1, -1, low} {
			expectRefused(t, bytes, func(r *codec.Reader) bool { return r.Text(most) == "" })
		}
		if s != "" {
			expectRefused(t, bytes[:len(bytes)-1], func(r *codec.Reader) bool { return r.Text(high) == "" })
		}
	}
	expectRefused(t, size(high)+"a", func(r *codec.Reader) bool { return r.Text(high) == "" })
}

// P4.3: right values, and no others.
func TestValue(t *testing.T) {
	for _, v := range rights() {
		r := codec.Read(laid(func(w *codec.Writer) { w.Value(v) }))
		if got := r.Value(); got != v || !r.End() {
			t.Errorf("Value of %v: %v, %t", v, got, r.End())
		}
	}
	long := strings.Repeat("a", 201)
	for _, s := range []string{
		"", "\x00", "\x00\x00", "\x04\x00", "\x04\x01", "\xff\x00", "\x01", "\x01\x01", "\x01\x01\x00", "\x01\x09\x01\x01\x01\x01\x01\x01\x01\x01\x01",
		"\x02", "\x02\x01", "\x02\x01\x01", "\x02\x01\x02a", "\x02" + size(201) + long, "\x02\x02\x00\x01a",
		"\x03", "\x03\x02", "\x03\xff", "\x03\x80",
	} {
		expectRefused(t, s, func(r *codec.Reader) bool { return r.Value() == api.Value{} })
	}
}

// P4.3: at most so many values.
func TestRowOfAtMost(t *testing.T) {
	for _, row := range someRows() {
		bytes := laid(func(w *codec.Writer) { w.Row(row...) })
		for _, most := range []int{len(row), len(row) + 1, high} {
			r := codec.Read(bytes + "b")
			if got := r.Row(most); !slices.Equal(got, row) || r.String() != "b" {
				t.Errorf("Row of %v of at most %d: %v", row, most, got)
			}
		}
		for _, most := range []int{len(row) - 1, -1, low} {
			expectRefused(t, bytes, func(r *codec.Reader) bool { return len(r.Row(most)) == 0 })
		}
	}
	for _, s := range []string{"", "\x01\x01", "\x01\x01\x00", "\x01\x01\x03\x02", "\x01\x02\x03\x01", "\x01\x02\x03\x01\x03", "\x01\x02\x03\x01\x04\x00", "\x01\x02\x03\x07\x03\x01", size(high) + "\x03\x01"} {
		expectRefused(t, s, func(r *codec.Reader) bool { return len(r.Row(high)) == 0 })
	}
}

// P4.3: at most so many rows, each of at most so many values.
func TestRowsOfAtMost(t *testing.T) {
	rows := someRows()
	bytes := laid(func(w *codec.Writer) { w.Rows(rows...) })
	cols := len(rights())
	for _, c := range []struct{ most, cols int }{{len(rows), cols}, {len(rows) + 1, cols + 1}, {high, high}} {
		r := codec.Read(bytes + "b")
		if got := r.Rows(c.most, c.cols); !sameRows(got, rows) || r.String() != "b" {
			t.Errorf("Rows of at most %d, %d: %v", c.most, c.cols, got)
		}
	}
	for _, c := range []struct{ most, cols int }{{len(rows) - 1, cols}, {len(rows), cols - 1}, {-1, cols}, {len(rows), -1}, {low, high}, {high, low}, {0, cols}, {len(rows), 0}} {
		expectRefused(t, bytes, func(r *codec.Reader) bool { return len(r.Rows(c.most, c.cols)) == 0 })
	}
	for _, s := range []string{"", "\x01\x01", "\x01\x02\x00", "\x01\x01\x01\x01", "\x01\x02\x01\x01\x03\x01", "\x01\x02\x01\x01\x03\x01\x01\x01\x03\x02", size(high) + "\x00\x00", size(1, high) + "\x03\x01"} {
		expectRefused(t, s, func(r *codec.Reader) bool { return len(r.Rows(high, high)) == 0 })
	}
	if r := codec.Read("\x00\x01\x01\x00"); len(r.Rows(0, -1)) != 0 || !r.Good() || len(r.Rows(1, 0)) != 1 || !r.End() {
		t.Error("no rows, and one without values, aren't taken")
	}
}

// P4.3.
func TestFail(t *testing.T) {
	for _, s := range []string{"", "\x01\x05", "\x00\x00"} {
		r := codec.Read(s)
		r.Fail()
		expectBad(t, r)
	}
	r := codec.Read("\x01\x05\x01\x06")
	if n := r.Size(9); n != 5 {
		t.Errorf("Size: %d", n)
	}
	r.Fail()
	expectBad(t, r)
	expectBad(t, nil)
}

// P4.3: what fails once, fails ever, whichever call did.
func TestBadStays(t *testing.T) {
	const good = "\x01\x01\x01\x02\x01\x01\x01\x02"
	for _, l := range takings() {
		r := codec.Read("\x09" + good)
		if !l.take(r) {
			t.Errorf("%s answers something", l.name)
		}
		expectBad(t, r)
	}
}

// P4.4: what is laid is taken as it was.
func TestThereAndBack(t *testing.T) {
	var w codec.Writer
	w.Size(sizes()...).Signed(numbers()...).Text(texts()...).Value(rights()...).Row(rights()...).Rows(someRows()...).Row().Rows()
	r := codec.Read(w.String())
	for _, n := range sizes() {
		if got := r.Size(high); got != n {
			t.Errorf("Size: %d; want %d", got, n)
		}
	}
	for _, n := range numbers() {
		if got := r.Signed(); got != n {
			t.Errorf("Signed: %d; want %d", got, n)
		}
	}
	for _, s := range texts() {
		if got := r.Text(len(s)); got != s {
			t.Errorf("Text: %q; want %q", got, s)
		}
	}
	for _, v := range rights() {
		if got := r.Value(); got != v {
			t.Errorf("Value: %v; want %v", got, v)
		}
	}
	if !slices.Equal(r.Row(high), rights()) || !sameRows(r.Rows(high, high), someRows()) || len(r.Row(0)) != 0 || len(r.Rows(0, 0)) != 0 || !r.End() {
		t.Errorf("rows; left: %d, %t", r.Len(), r.Good())
	}
}

// P4.4: cut off the reader is bad.
func TestCutOff(t *testing.T) {
	one, x, yes := value.Int(-300), value.Text("xyz"), value.Bool(true)
	for _, c := range []struct {
		lay  func(w *codec.Writer)
		take func(r *codec.Reader) bool
	}{
		{func(w *codec.Writer) { w.Size(high) }, func(r *codec.Reader) bool { return r.Size(high) == 0 }},
		{func(w *codec.Writer) { w.Signed(low) }, func(r *codec.Reader) bool { return r.Signed() == 0 }},
		{func(w *codec.Writer) { w.Text(texts()[12]) }, func(r *codec.Reader) bool { return r.Text(high) == "" }},
		{func(w *codec.Writer) { w.Value(one) }, func(r *codec.Reader) bool { return r.Value() == api.Value{} }},
		{func(w *codec.Writer) { w.Value(x) }, func(r *codec.Reader) bool { return r.Value() == api.Value{} }},
		{func(w *codec.Writer) { w.Value(yes) }, func(r *codec.Reader) bool { return r.Value() == api.Value{} }},
		{func(w *codec.Writer) { w.Row(one, x, yes) }, func(r *codec.Reader) bool { return len(r.Row(3)) == 0 }},
		{func(w *codec.Writer) { w.Rows([]api.Value{one, x}, nil, []api.Value{yes}) }, func(r *codec.Reader) bool { return len(r.Rows(3, 2)) == 0 }},
	} {
		whole := laid(c.lay)
		for i := range len(whole) {
			expectRefused(t, whole[:i], c.take)
		}
		if r := codec.Read(whole); c.take(r) || !r.End() {
			t.Errorf("%x isn't taken", whole)
		}
	}
}

// again lays what of s that call takes, if it is taken.
func again(s, call string) (string, *codec.Reader) {
	var w codec.Writer
	r := codec.Read(s)
	switch call {
	case "Size":
		w.Size(r.Size(high))
	case "Signed":
		w.Signed(r.Signed())
	case "Text":
		w.Text(r.Text(high))
	case "Value":
		w.Value(r.Value())
	case "Row":
		w.Row(r.Row(high)...)
	case "Rows":
		w.Rows(r.Rows(high, high)...)
	}
	return w.String(), r
}

// P4.4: there is one way only: whatever bytes are taken are those that are laid.
func TestOneWay(t *testing.T) {
	const alphabet = "\x00\x01\x02\x03\x04\x08\x09\x7f\xff"
	front := []string{""}
	for range 5 {
		var longer []string
		for _, s := range front {
			for i := range len(alphabet) {
				longer = append(longer, s+alphabet[i:i+1])
			}
		}
		for _, s := range longer {
			for _, call := range []string{"Size", "Signed", "Text", "Value", "Row", "Rows"} {
				if got, r := again(s, call); r.Good() && got+r.String() != s {
					t.Fatalf("%s of %x: %x, and %x is to come", call, s, got, r.String())
				}
			}
		}
		front = longer
	}
}

// P4.3: how many there are said to be costs nothing.
func TestSaidToBeMany(t *testing.T) {
	for _, n := range []int{1 << 20, 1 << 40, high} {
		s := size(n) + strings.Repeat("\x03\x01", 100)
		for _, l := range takings() {
			if strings.HasPrefix(l.name, "Row") || strings.HasPrefix(l.name, "Text") {
				expectRefused(t, s, l.take)
			}
		}
	}
}

// What is answered is new memory: no two lists share any, nor with the reader.
func TestReaderIsNew(t *testing.T) {
	s := laid(func(w *codec.Writer) { w.Rows(rights()[:2], rights()[:2]).Row(rights()[:2]...) })
	r := codec.Read(s)
	rows := r.Rows(2, 2)
	left := r.String()
	rows[0] = append(rows[0], value.Int(9))
	rows[0][0] = value.Int(9)
	if !slices.Equal(rows[1], rights()[:2]) || r.String() != left || !slices.Equal(r.Row(2), rights()[:2]) {
		t.Errorf("%v, %x", rows, r.String())
	}
}

// Readers of the same bytes are each at a place of its own.
func TestReadersApart(t *testing.T) {
	s := size(1, 2, 3)
	a, b := codec.Read(s), codec.Read(s)
	if a.Size(3) != 1 || a.Size(3) != 2 || b.Size(3) != 1 {
		t.Error("a reader goes on with another one")
	}
	a.Fail()
	if !b.Good() || b.Size(3) != 2 || b.Size(3) != 3 || !b.End() {
		t.Error("a reader fails with another one")
	}
}

// A number is told by its bytes, whatever their values.
func TestNumbersOfAllWidths(t *testing.T) {
	for n := range 8 {
		for _, b := range []string{"\x01", "\x7f", "\x80", "\xff"} {
			for _, rest := range []string{"\x00", "\x01", "\xff"} {
				s := b + strings.Repeat(rest, n)
				want := new(big.Int).SetBytes([]byte(s))
				r := codec.Read(string([]byte{byte(n + 1)}) + s)
				got := r.Size(math.MaxInt)
				if want.IsInt64() && (int64(got) != want.Int64() || !r.End()) {
					t.Errorf("Size of %x: %d, %t", s, got, r.End())
				}
				if !want.IsInt64() && (got != 0 || r.Good()) {
					t.Errorf("Size of %x: %d", s, got)
				}
			}
		}
	}
}
