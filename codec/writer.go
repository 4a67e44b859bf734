package codec

import (
	"afflux/api"
	"afflux/value"
)

// Writer lays things one behind the other.
type Writer struct {
	Bytes
}

// Len is how many bytes were laid. (A nil Writer has no Bytes that would
// answer for it: so with String, and with a Reader.)
func (w *Writer) Len() int {
	if w == nil {
		return 0
	}
	return w.Bytes.Len()
}

// String is what was laid.
func (w *Writer) String() string {
	if w == nil {
		return ""
	}
	return w.Bytes.String()
}

// Size lays numbers that aren't below 0.
func (w *Writer) Size(l ...int) *Writer {
	for _, n := range l {
		w.number(uint64(max(n, 0)))
	}
	return w
}

// Signed lays numbers.
func (w *Writer) Signed(l ...int64) *Writer {
	for _, n := range l {
		w.number(fold(n))
	}
	return w
}

// fold is 2n, or -2n - 1 of a number below 0: the complement of 2n, that is the
// same of the lowest number, too, whose 2n wraps round.
func fold(n int64) uint64 {
	if n < 0 {
		return ^(uint64(n) << 1)
	}
	return uint64(n) << 1
}

// Text lays texts.
func (w *Writer) Text(l ...string) *Writer {
	for _, s := range l {
		w.Size(len(s)).put([]byte(s)...)
	}
	return w
}

// Value lays values.
func (w *Writer) Value(l ...api.Value) *Writer {
	for _, v := range l {
		w.value(v)
	}
	return w
}

func (w *Writer) value(v api.Value) {
	if !value.Right(v) {
		v = value.Int(0)
	}
	w.put(byte(v.Kind))
	switch v.Kind {
	case api.KInt:
		w.Signed(v.N)
	case api.KText:
		w.Text(v.S)
	case api.KBool:
		w.put(byte(v.N))
	}
}

// Row lays a row.
func (w *Writer) Row(l ...api.Value) *Writer {
	return w.Size(len(l)).Value(l...)
}

// Rows lays rows.
func (w *Writer) Rows(l ...[]api.Value) *Writer {
	w.Size(len(l))
	for _, row := range l {
		w.Row(row...)
	}
	return w
}

// number lays how many bytes n has, and these.
func (w *Writer) number(n uint64) {
	size := width(n)
	w.put(byte(size))
	for i := size - 1; i >= 0; i-- {
		w.put(byte(n >> (8 * i)))
	}
}

// put is the one way by which bytes come in, so that it alone has to know of
// a nil Writer.
func (w *Writer) put(l ...byte) {
	if w != nil {
		w.data = append(w.data, l...)
	}
}
