package codec_test

import (
	"math/big"
	"slices"
	"strings"
	"testing"

	"afflux/api"
	"afflux/codec"
	"afflux/value"
)

// P4.2: what is laid, byte by byte.
func TestLaid(t *testing.T) {
	one, yes := value.Int(1), value.Bool(true)
	long := strings.Repeat("x", 300)
	for _, c := range []struct {
		lay  func(w *codec.Writer)
		want string
	}{
		{func(w *codec.Writer) { w.Size(0) }, "\x00"},
		{func(w *codec.Writer) { w.Size(1) }, "\x01\x01"},
		{func(w *codec.Writer) { w.Size(255) }, "\x01\xff"},
		{func(w *codec.Writer) { w.Size(256) }, "\x02\x01\x00"},
		{func(w *codec.Writer) { w.Size(300) }, "\x02\x01\x2c"},
		{func(w *codec.Writer) { w.Size(0x0102030405060708) }, "\x08\x01\x02\x03\x04\x05\x06\x07\x08"},
		{func(w *codec.Writer) { w.Size(high) }, "\x08\x7f\xff\xff\xff\xff\xff\xff\xff"},
		{func(w *codec.Writer) { w.Size(-1) }, "\x00"},
		{func(w *codec.Writer) { w.Size(low) }, "\x00"},
		{func(w *codec.Writer) { w.Size(1, -5, 300, 0) }, "\x01\x01\x00\x02\x01\x2c\x00"},
		{func(w *codec.Writer) { w.Size() }, ""},
		{func(w *codec.Writer) { w.Signed(0) }, "\x00"},
		{func(w *codec.Writer) { w.Signed(-1) }, "\x01\x01"},
		{func(w *codec.Writer) { w.Signed(1) }, "\x01\x02"},
		{func(w *codec.Writer) { w.Signed(127, -128) }, "\x01\xfe\x01\xff"},
		{func(w *codec.Writer) { w.Signed(128, -129) }, "\x02\x01\x00\x02\x01\x01"},
		{func(w *codec.Writer) { w.Signed(high) }, "\x08\xff\xff\xff\xff\xff\xff\xff\xfe"},
		{func(w *codec.Writer) { w.Signed(low) }, "\x08\xff\xff\xff\xff\xff\xff\xff\xff"},
		{func(w *codec.Writer) { w.Signed() }, ""},
		{func(w *codec.Writer) { w.Text("") }, "\x00"},
		{func(w *codec.Writer) { w.Text("a\x00", "", "b") }, "\x01\x02a\x00\x00\x01\x01b"},
		{func(w *codec.Writer) { w.Text(long) }, "\x02\x01\x2c" + long},
		{func(w *codec.Writer) { w.Text() }, ""},
		{func(w *codec.Writer) { w.Value(value.Int(0), one, value.Int(-300)) }, "\x01\x00\x01\x01\x02\x01\x02\x02\x57"},
		{func(w *codec.Writer) { w.Value(value.Text(""), value.Text("ab")) }, "\x02\x00\x02\x01\x02ab"},
		{func(w *codec.Writer) { w.Value(value.Bool(false), yes) }, "\x03\x00\x03\x01"},
		{func(w *codec.Writer) { w.Value() }, ""},
		{func(w *codec.Writer) { w.Row(one, yes) }, "\x01\x02\x01\x01\x02\x03\x01"},
		{func(w *codec.Writer) { w.Row() }, "\x00"},
		{func(w *codec.Writer) { w.Row(api.Value{Kind: 9}, yes) }, "\x01\x02\x01\x00\x03\x01"},
		{func(w *codec.Writer) { w.Rows() }, "\x00"},
		{func(w *codec.Writer) { w.Rows(nil) }, "\x01\x01\x00"},
		{func(w *codec.Writer) { w.Rows([]api.Value{one, yes}, nil, []api.Value{yes}) }, "\x01\x03\x01\x02\x01\x01\x02\x03\x01\x00\x01\x01\x03\x01"},
	} {
		if got := laid(c.lay); got != c.want {
			t.Errorf("%x; want %x", got, c.want)
		}
	}
}

// P4.2: a value that isn't right.
func TestLaidOfWrongs(t *testing.T) {
	for _, v := range wrongs() {
		if got := laid(func(w *codec.Writer) { w.Value(v, value.Bool(true)) }); got != "\x01\x00\x03\x01" {
			t.Errorf("%v: %x", v, got)
		}
	}
}

// layNumber is a number's bytes, told by other means.
func layNumber(n *big.Int) string {
	b := n.Bytes()
	return string([]byte{byte(len(b))}) + string(b)
}

// P4.2: sizes and signed numbers of all widths.
func TestLaidNumbers(t *testing.T) {
	for _, n := range sizes() {
		if got, want := size(n), layNumber(big.NewInt(int64(n))); got != want {
			t.Errorf("Size of %d: %x; want %x", n, got, want)
		}
	}
	for _, n := range numbers() {
		twice := new(big.Int).Mul(big.NewInt(n), big.NewInt(2))
		if n < 0 {
			twice.Neg(twice).Sub(twice, big.NewInt(1))
		}
		if got, want := laid(func(w *codec.Writer) { w.Signed(n) }), layNumber(twice); got != want {
			t.Errorf("Signed of %d: %x; want %x", n, got, want)
		}
	}
}

// P4.2: each call answers its Writer, so that one may stand behind the other.
func TestWriterAnswersItself(t *testing.T) {
	var w codec.Writer
	yes := value.Bool(true)
	if w.Size(1) != &w || w.Signed(1) != &w || w.Text("a") != &w || w.Value(yes) != &w || w.Row(yes) != &w || w.Rows(nil) != &w {
		t.Error("a call answers another Writer")
	}
	if w.Size() != &w || w.Signed() != &w || w.Text() != &w || w.Value() != &w {
		t.Error("a call of nothing answers another Writer")
	}
	want := "\x01\x01" + "\x01\x02" + "\x01\x01a" + "\x03\x01" + "\x01\x01\x03\x01" + "\x01\x01\x00"
	if w.String() != want || w.Len() != len(want) {
		t.Errorf("%x, %d", w.String(), w.Len())
	}
}

// P4.1: the bytes that a Writer embeds are what was laid.
func TestWriterBytes(t *testing.T) {
	var w codec.Writer
	total := 0
	for _, s := range texts() {
		if w.Len() != total || w.Bytes.Len() != total || len(w.String()) != total || w.Bytes.String() != w.String() {
			t.Fatalf("%d, %d; want %d", w.Len(), w.Bytes.Len(), total)
		}
		w.Text(s)
		total += len(size(len(s))) + len(s)
	}
	b := &w.Bytes
	if b.Len() != total || b.String() != w.String() {
		t.Errorf("%d; want %d", b.Len(), total)
	}
	before := w.String()
	w.Size(5)
	if before+"\x01\x05" != w.String() {
		t.Error("what was laid first has changed")
	}
}

// P4.1, P4.2.
func TestNilWriter(t *testing.T) {
	var w *codec.Writer
	yes := value.Bool(true)
	if w.Size(1) != nil || w.Signed(1) != nil || w.Text("a") != nil || w.Value(yes) != nil || w.Row(yes) != nil || w.Rows(nil) != nil || w.Rows() != nil {
		t.Error("a nil Writer answers another one")
	}
	if w.Len() != 0 || w.String() != "" {
		t.Errorf("%d, %q", w.Len(), w.String())
	}
}

// P4.1.
func TestNoBytes(t *testing.T) {
	var none *codec.Bytes
	var zero codec.Bytes
	var w codec.Writer
	if none.Len() != 0 || none.String() != "" || zero.Len() != 0 || zero.String() != "" || w.Len() != 0 || w.String() != "" {
		t.Error("there are bytes where nothing was laid")
	}
}

// What is handed in stays, its spare room, too.
func TestWriterKeepsNothing(t *testing.T) {
	yes, x := value.Bool(true), value.Text("x")
	row := append([]api.Value{yes, {Kind: 9}}, x)[:2]
	rows := [][]api.Value{row, nil, row}[:2]
	var w codec.Writer
	w.Value(row...).Row(row...).Rows(rows...)
	if !slices.Equal(row[:3], []api.Value{yes, {Kind: 9}, x}) || len(rows[:3][2]) != 2 {
		t.Errorf("%v, %v", row[:3], rows[:3])
	}
	before := w.String()
	row[0], rows[1] = x, row
	if w.String() != before {
		t.Error("what was laid has changed")
	}
}
