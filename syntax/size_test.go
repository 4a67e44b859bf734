package syntax_test

import (
	"slices"
	"strconv"
	"testing"

	"afflux/api"
	"afflux/syntax"
)

// P12.1: nodes and depth of expressions.
func TestSizeExpr(t *testing.T) {
	for _, c := range []struct {
		what         string
		e            api.Expr
		nodes, depth int
	}{
		{"nothing", api.Expr{}, 1, 1},
		{"a number", one, 1, 1},
		{"an empty list", api.Expr{Op: api.XAdd, Args: []api.Expr{}}, 1, 1},
		{"a sum", of(api.XAdd, one, one), 3, 2},
		{"deep on the left", of(api.XSub, chain(4), one), 6, 5},
		{"deep on the right", of(api.XSub, one, chain(4)), 6, 5},
		{"deep in the middle", of(77, chain(2), chain(5), chain(3)), 11, 6},
		{"a tally", tally(api.XSum, "r", "t", of(api.XEq, one, one), one), 5, 3},
		{"within what has no args", of(api.XInt, one, of(-1, one)), 4, 3},
		{"a bush", bush(9), 511, 9},
		{"a chain", chain(999), 999, 999},
		{"1000 deep", chain(1000), 1000, 1000},
		{"1001 deep", chain(1001), 1000, 1000},
		{"very deep", chain(1 << 16), 1000, 1000},
		{"998 of one", of(1, slices.Repeat([]api.Expr{one}, 998)...), 999, 2},
		{"999 of one", of(1, slices.Repeat([]api.Expr{one}, 999)...), 1000, 1000},
		{"many of one", of(1, slices.Repeat([]api.Expr{one}, 1<<16)...), 1000, 1000},
		{"999 in two", of(1, chain(499), chain(499)), 999, 500},
		{"1000 in two", of(1, chain(499), chain(500)), 1000, 1000},
		{"1000 behind a bush", of(1, bush(9), chain(488)), 1000, 1000},
		{"999 behind a bush", of(1, bush(9), chain(487)), 999, 488},
		{"a great bush", bush(10), 1000, 1000},
		{"an endless bush", bush(1 << 10), 1000, 1000},
		{"a ring", ring(), 1000, 1000},
		{"rings", of(api.XAdd, ring(), ring()), 1000, 1000},
	} {
		nodes, depth := syntax.SizeExpr(c.e)
		expectSizes(t, c.what, nodes, depth, c.nodes, c.depth)
	}
}

// P12.1: nodes and depth of procedures.
func TestSize(t *testing.T) {
	deep := api.Stmt{Op: api.SIf, Exprs: []api.Expr{chain(2)}, Body: []api.Stmt{ifs(3)}, Else: wide(2)}
	for _, c := range []struct {
		what         string
		p            api.Proc
		nodes, depth int
	}{
		{"nothing", api.Proc{}, 0, 0},
		{"an empty body", with(), 0, 0},
		{"what has parameters alone", api.Proc{Name: "p", Params: make([]api.Column, 2000)}, 0, 0},
		{"an empty statement", with(api.Stmt{}), 1, 1},
		{"columns", with(api.Stmt{Op: api.SUpdate, Cols: make([]string, 2000)}), 1, 1},
		{"a reply", with(wide(1)...), 2, 2},
		{"two replies", with(wide(2)...), 4, 2},
		{"three in one", with(replies(of(1, one, chain(3), one))...), 7, 5},
		{"an expression that is deepest", with(api.Stmt{Exprs: []api.Expr{chain(5)}, Body: wide(1), Else: wide(1)}), 10, 6},
		{"a body that is deepest", with(deep), 11, 4},
		{"an else that is deepest", with(api.Stmt{Exprs: []api.Expr{one}, Body: wide(1), Else: []api.Stmt{ifs(7)}}), 16, 8},
		{"the first one that is deepest", with(ifs(5), ifs(3)), 12, 5},
		{"the last one that is deepest", with(ifs(3), ifs(5)), 12, 5},
		{"bodies of what has none", with(api.Stmt{Op: api.SLet, Body: wide(1), Else: []api.Stmt{{Body: wide(3)}}}), 10, 4},
		{"499 replies", with(wide(499)...), 998, 2},
		{"499 replies and one more", with(append(wide(499), api.Stmt{})...), 999, 2},
		{"500 replies", with(wide(500)...), 1000, 1000},
		{"many replies", with(wide(1 << 16)...), 1000, 1000},
		{"500 deep", with(ifs(500)), 998, 500},
		{"501 deep", with(ifs(501)), 1000, 1000},
		{"999 in three", with(api.Stmt{Exprs: []api.Expr{chain(332)}, Body: wide(166), Else: []api.Stmt{ifs(167), {}, {}}}), 999, 333},
		{"1000 in three", with(api.Stmt{Exprs: []api.Expr{chain(332)}, Body: wide(166), Else: []api.Stmt{ifs(167), {}, {}, {}}}), 1000, 1000},
		{"1000 by its expressions", with(replies(slices.Repeat([]api.Expr{chain(9)}, 100)...)...), 1000, 1000},
	} {
		nodes, depth := syntax.Size(c.p)
		expectSizes(t, c.what, nodes, depth, c.nodes, c.depth)
	}
	for i, p := range endless() {
		nodes, depth := syntax.Size(p)
		expectSizes(t, strconv.Itoa(i), nodes, depth, 1000, 1000)
	}
}

// sizeExpr is nodes and depth, counted to the end.
func sizeExpr(e api.Expr) (int, int) {
	nodes, depth := 1, 0
	for _, a := range e.Args {
		n, d := sizeExpr(a)
		nodes, depth = nodes+n, max(depth, d)
	}
	return nodes, depth + 1
}

// P12.1: expressions of all shapes with up to seven nodes.
func TestSizesOfAll(t *testing.T) {
	count := 0
	for n := 1; n <= 7; n++ {
		for _, e := range shapes(n) {
			count++
			nodes, depth := syntax.SizeExpr(e)
			wantNodes, wantDepth := sizeExpr(e)
			expectSizes(t, "a shape", nodes, depth, wantNodes, wantDepth)
			nodes, depth = syntax.Size(with(append(wide(3), replies(e)...)...))
			expectSizes(t, "a reply of a shape", nodes, depth, wantNodes+7, max(2, wantDepth+1))
		}
	}
	if count < 190 {
		t.Errorf("%d shapes", count)
	}
}

// shapes are all trees of so many nodes.
func shapes(n int) []api.Expr {
	var out []api.Expr
	for _, args := range rows(n - 1) {
		out = append(out, of(api.XAdd, args...))
	}
	return out
}

// rows are all lists of trees with so many nodes in all.
func rows(n int) [][]api.Expr {
	if n == 0 {
		return [][]api.Expr{nil}
	}
	var out [][]api.Expr
	for k := 1; k <= n; k++ {
		for _, e := range shapes(k) {
			for _, l := range rows(n - k) {
				out = append(out, append([]api.Expr{e}, l...))
			}
		}
	}
	return out
}
