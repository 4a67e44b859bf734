package syntax_test

import (
	"slices"
	"strings"
	"testing"

	"afflux/api"
	"afflux/syntax"
)

var (
	one = api.Expr{Op: api.XInt, N: 1}
	yes = api.Expr{Op: api.XBool, N: 1}
)

// of is an expression of others.
func of(op int, args ...api.Expr) api.Expr {
	return api.Expr{Op: op, Args: args}
}

func tally(op int, name, src string, args ...api.Expr) api.Expr {
	return api.Expr{Op: op, Name: name, Src: src, Args: args}
}

// goodExprs are right expressions, one of each op.
func goodExprs() []api.Expr {
	l := []api.Expr{
		one, {Op: api.XText, S: "it's"}, yes, {Op: api.XVar, Name: "x"}, {Op: api.XCol, Name: "r", S: "a"},
	}
	for op := api.XAdd; op <= api.XOr; op++ {
		l = append(l, of(op, one, yes))
	}
	return append(l,
		of(api.XNot, yes), of(api.XNeg, one),
		tally(api.XCount, "r", "t", yes), tally(api.XSum, "r", "t", yes, one), tally(api.XMin, "r", "t", yes, one), tally(api.XMax, "r", "t", yes, one),
	)
}

// goodStmts are right statements, one of each op.
func goodStmts() []api.Stmt {
	return []api.Stmt{
		{Op: api.SLet, Name: "x", Exprs: []api.Expr{one}},
		{Op: api.SSet, Name: "x", Exprs: []api.Expr{one}},
		{Op: api.SInsert, Src: "t", Exprs: []api.Expr{one, yes}},
		{Op: api.SUpdate, Name: "r", Src: "t", Cols: []string{"a", "b"}, Exprs: []api.Expr{yes, one, one}},
		{Op: api.SDelete, Name: "r", Src: "t", Exprs: []api.Expr{yes}},
		{Op: api.SFor, Name: "r", Src: "t", N: 5, Exprs: []api.Expr{yes}, Body: []api.Stmt{{Op: api.SAbort, Exprs: []api.Expr{one}}}},
		{Op: api.SIf, Exprs: []api.Expr{yes}, Body: []api.Stmt{{Op: api.SReply, Exprs: []api.Expr{one}}}, Else: []api.Stmt{{Op: api.SAbort, Exprs: []api.Expr{one}}}},
		{Op: api.SEmit, Src: "s", Exprs: []api.Expr{one, yes}},
		{Op: api.SAbort, Exprs: []api.Expr{one}},
		{Op: api.SReply, Exprs: []api.Expr{one, yes}},
	}
}

// good is a right procedure with all of these; it is made anew each time, so that a
// test may spoil it.
func good() api.Proc {
	return api.Proc{
		Name: "p", At: "x", Fuel: 100,
		Params: []api.Column{{Name: "x", Kind: api.KInt}, {Name: "y", Kind: api.KText}, {Name: "z", Kind: api.KBool}},
		Body:   append(goodStmts(), replies(goodExprs()...)...),
	}
}

// replies are statements, each with one of some expressions.
func replies(l ...api.Expr) []api.Stmt {
	var out []api.Stmt
	for _, e := range l {
		out = append(out, api.Stmt{Op: api.SReply, Exprs: []api.Expr{e}})
	}
	return out
}

// with is a procedure with these statements.
func with(body ...api.Stmt) api.Proc {
	return api.Proc{Name: "p", Fuel: 100, Body: body}
}

// chain is an expression as deep as that, with a node for each.
func chain(deep int) api.Expr {
	e := one
	for range deep - 1 {
		e = of(api.XNeg, e)
	}
	return e
}

// ifs are statements in one another, as deep as that with the expressions of the
// innermost one, two nodes for each.
func ifs(deep int) api.Stmt {
	s := api.Stmt{Op: api.SIf, Exprs: []api.Expr{yes}}
	for range deep - 2 {
		s = api.Stmt{Op: api.SIf, Exprs: []api.Expr{yes}, Body: []api.Stmt{s}}
	}
	return s
}

// wide is so many statements, two nodes for each.
func wide(n int) []api.Stmt {
	return slices.Repeat(replies(one), n)
}

// bush is an expression of many nodes, of which few take room.
func bush(deep int) api.Expr {
	e := one
	for range deep - 1 {
		e = of(api.XAdd, e, e)
	}
	return e
}

// ring is an expression that holds itself.
func ring() api.Expr {
	l := []api.Expr{{Op: api.XNeg}}
	l[0].Args = l
	return l[0]
}

// round is a statement that holds itself, in its body or behind else.
func round(other bool) api.Stmt {
	l := []api.Stmt{{Op: api.SIf, Exprs: []api.Expr{yes}}}
	if other {
		l[0].Else = l
	} else {
		l[0].Body = l
	}
	return l[0]
}

// endless are procedures that can't be gone through to their end.
func endless() []api.Proc {
	return []api.Proc{
		with(round(false)), with(round(true)), with(replies(ring())...), with(replies(bush(60))...),
		with(api.Stmt{Op: api.SIf, Exprs: []api.Expr{ring()}, Body: []api.Stmt{round(true)}, Else: []api.Stmt{round(false)}}),
	}
}

// x17 is one letter too long for a name.
var x17 = strings.Repeat("x", 17)

// noNames are texts that are no names, or reserved.
var noNames = []string{"", "X", "1", "_", "a-b", "a b", "x\x00", "xY", x17, "if", "true", "table", "slide"}

func expectExpr(t *testing.T, e api.Expr, want bool) {
	t.Helper()
	if syntax.RightExpr(e) != want {
		t.Errorf("RightExpr(%v): %t", e, !want)
	}
	// A procedure with it is right just then.
	if syntax.Right(with(replies(e)...)) != want && !tooBig(e) {
		t.Errorf("Right with %v: %t", e, !want)
	}
}

// tooBig: so great that a statement around it is too great.
func tooBig(e api.Expr) bool {
	nodes, depth := syntax.SizeExpr(e)
	return nodes >= 300 || depth >= 12
}

func expectProc(t *testing.T, p api.Proc, want bool) {
	t.Helper()
	if syntax.Right(p) != want {
		t.Errorf("Right(%v): %t", p, !want)
	}
}

func expectSizes(t *testing.T, what string, nodes, depth, wantNodes, wantDepth int) {
	t.Helper()
	if nodes != wantNodes || depth != wantDepth {
		t.Errorf("the size of %s: %d, %d; want %d, %d", what, nodes, depth, wantNodes, wantDepth)
	}
}
