// Package codec is layer 4: numbers, texts and rows as bytes, in one way only.
package codec

import (
	"math/bits"
)

// Bytes is bytes.
type Bytes struct {
	data []byte
}

// Len is how many bytes there are.
func (b *Bytes) Len() int {
	if b == nil {
		return 0
	}
	return len(b.data)
}

// String is the bytes.
func (b *Bytes) String() string {
	if b == nil {
		return ""
	}
	return string(b.data)
}

// width is how many bytes a number has, the first one not 00.
func width(n uint64) int {
	return (bits.Len64(n) + 7) / 8
}
