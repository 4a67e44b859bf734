package codec_test

import (
	"math"
	"slices"
	"strings"

	"afflux/api"
	"afflux/codec"
	"afflux/value"
)

const (
	low  = math.MinInt64
	high = math.MaxInt64
)

func sizes() []int {
	out := []int{0, 300, high, high - 1}
	for shift := range 63 {
		out = append(out, 1<<shift-1, 1<<shift, 1<<shift+1)
	}
	return out
}

func numbers() []int64 {
	out := []int64{low, low + 1}
	for _, n := range sizes() {
		out = append(out, int64(n), -int64(n))
	}
	return out
}

func texts() []string {
	return []string{
		"", "a", "\x00", "\x00\x00", "it's", "\xff\xfe", "é", strings.Repeat("x", 127), strings.Repeat("x", 128),
		strings.Repeat("y", 199), strings.Repeat("y", 200), strings.Repeat("\xff", 255), strings.Repeat("z", 256), strings.Repeat("\x00", 70000),
	}
}

// rights are right values.
func rights() []api.Value {
	out := []api.Value{value.Bool(false), value.Bool(true)}
	for _, n := range numbers() {
		out = append(out, value.Int(n))
	}
	for _, s := range texts() {
		if len(s) <= api.MaxText {
			out = append(out, value.Text(s))
		}
	}
	return out
}

// wrongs are values that aren't right.
func wrongs() []api.Value {
	return []api.Value{
		{}, {Kind: -1}, {Kind: 4}, {Kind: 257, N: 1}, {N: 1}, {S: "a"},
		{Kind: api.KInt, N: 1, S: "a"}, {Kind: api.KText, N: 1, S: "a"}, value.Text(strings.Repeat("a", 201)),
		{Kind: api.KBool, N: 2}, {Kind: api.KBool, N: -1}, {Kind: api.KBool, N: 1, S: "a"},
	}
}

func someRows() [][]api.Value {
	one, x, yes := value.Int(1), value.Text("x"), value.Bool(true)
	return [][]api.Value{nil, {one}, {x}, {yes}, {one, yes}, {one, x, yes, one, x, yes, one, x}, rights(), {one, one}, nil}
}

func sameRows(a, b [][]api.Value) bool {
	return slices.EqualFunc(a, b, slices.Equal)
}

func laid(lay func(w *codec.Writer)) string {
	var w codec.Writer
	lay(&w)
	return w.String()
}

func size(n ...int) string {
	return laid(func(w *codec.Writer) { w.Size(n...) })
}
