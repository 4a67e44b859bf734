package wal

import (
	"strings"

	"afflux/api"
	"afflux/calc"
)

// The numbers that a segment's name can tell: below bound, which has one digit
// more than they have.
const (
	digits = 8
	bound  = 100000000
	most   = bound - 1
)

// place is where the next record goes: its number; the segment's; and how many
// bytes the segment's records have.
type place struct {
	next, segment, size int
}

// from is the place of the first record of a segment.
func from(number int) place {
	return place{next: number, segment: number}
}

// empty tells whether the next record is the first one of its segment.
func (p place) empty() bool {
	return p.size == 0
}

// full tells whether the segment has all that it may have, so that the next
// record goes to another one.
func (p place) full() bool {
	return p.size >= SegmentSize
}

// file is the name of a segment's file.
func (l *Log) file(number int) string {
	// The bound's own digit keeps the noughts ahead.
	return l.name + "." + calc.Print(int64(bound + number))[1:]
}

// segments is the numbers of those that there are, rising.
func (l *Log) segments() []int {
	var out []int
	front := l.name + "."
	for _, file := range l.disk.Names(front) {
		if number, ok := told(strings.TrimPrefix(file, front)); ok {
			out = append(out, number)
		}
	}
	return out
}

// told is the number of eight decimal digits, and whether they are such.
func told(s string) (int, bool) {
	if len(s) != digits {
		return 0, false
	}
	// The bound's own digit ahead of them, since a number has no nought there.
	n, e := calc.Parse("1" + s)
	if e != api.OK {
		return 0, false
	}
	return int(n) - bound, true
}

// eight is a number as eight bytes, the highest first.
func eight(number int) string {
	var b [8]byte
	for i := range b {
		b[i] = byte(uint64(number) >> (56 - 8*i))
	}
	return string(b[:])
}
