package codec

import (
	"math"

	"afflux/api"
	"afflux/value"
)

// Reader takes what was laid.
type Reader struct {
	Bytes
	bad bool
}

// Read is a reader at the beginning.
func Read(s string) *Reader {
	return &Reader{Bytes: Bytes{data: []byte(s)}}
}

// Len is how many bytes are to come.
func (r *Reader) Len() int {
	if r == nil {
		return 0
	}
	return r.Bytes.Len()
}

// String is what is to come.
func (r *Reader) String() string {
	if r == nil {
		return ""
	}
	return r.Bytes.String()
}

// Good tells whether all was laid so.
func (r *Reader) Good() bool {
	return r != nil && !r.bad
}

// End tells whether all was taken.
func (r *Reader) End() bool {
	return r.Good() && r.Len() == 0
}

// Fail makes a reader a bad one. It has nothing left, so that whatever asks
// for a byte fails, too.
func (r *Reader) Fail() {
	if r != nil {
		*r = Reader{bad: true}
	}
}

// Size takes a number that isn't below 0.
func (r *Reader) Size(most int) int {
	if most < 0 {
		r.Fail()
		return 0
	}
	return int(r.number(uint64(most)))
}

// Signed takes a number.
func (r *Reader) Signed() int64 {
	return unfold(r.number(math.MaxUint64))
}

// unfold is the number whose fold u is.
func unfold(u uint64) int64 {
	half := int64(u >> 1)
	if u&1 == 1 {
		return -half - 1
	}
	return half
}

// Text takes a text.
func (r *Reader) Text(most int) string {
	return string(r.take(r.Size(most)))
}

// Value takes a value.
func (r *Reader) Value() api.Value {
	v := r.value()
	if !value.Right(v) {
		r.Fail()
	}
	if !r.Good() {
		return api.Value{}
	}
	return v
}

// value is what stands there, right or not.
func (r *Reader) value() api.Value {
	switch r.byte() {
	case api.KInt:
		return value.Int(r.Signed())
	case api.KText:
		return value.Text(r.Text(api.MaxText))
	case api.KBool:
		return api.Value{Kind: api.KBool, N: int64(r.byte())}
	}
	return api.Value{}
}

// Row takes a row.
func (r *Reader) Row(most int) []api.Value {
	return list(r, most, r.Value)
}

// Rows takes rows.
func (r *Reader) Rows(most, cols int) [][]api.Value {
	return list(r, most, func() []api.Value { return r.Row(cols) })
}

// list takes how many there are, and each of them. It makes no room ahead: how
// many there are said to be may be far more than there are.
func list[T any](r *Reader, most int, next func() T) []T {
	n := r.Size(most)
	var out []T
	for r.Good() && len(out) < n {
		out = append(out, next())
	}
	if !r.Good() {
		return nil
	}
	return out
}

// number takes how many bytes a number has, and these; one that has more bytes
// than it needs (or than a number can have) isn't laid so.
func (r *Reader) number(most uint64) uint64 {
	size := int(r.byte())
	n := uint64(0)
	for _, b := range r.take(size) {
		n = n<<8 | uint64(b)
	}
	if width(n) != size || n > most {
		r.Fail()
		return 0
	}
	return n
}

// byte takes a byte; it is 0 if there is none.
func (r *Reader) byte() byte {
	if l := r.take(1); len(l) == 1 {
		return l[0]
	}
	return 0
}

// take is the next n bytes; with fewer of them the reader is bad.
func (r *Reader) take(n int) []byte {
	if n > r.Len() {
		r.Fail()
	}
	if !r.Good() {
		return nil
	}
	head, rest := r.data[:n], r.data[n:]
	r.data = rest
	return head
}
