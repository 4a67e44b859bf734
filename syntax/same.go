package syntax

import (
	"slices"

	"afflux/api"
)

// SameExpr tells whether two expressions are the same.
func SameExpr(a, b api.Expr) bool {
	return ends(SizeExpr(a)) && sameExpr(a, b)
}

// Same tells whether two procedures are the same.
func Same(a, b api.Proc) bool {
	return ends(Size(a)) &&
		a.Name == b.Name &&
		a.From == b.From &&
		a.At == b.At &&
		a.Fuel == b.Fuel &&
		slices.Equal(a.Params, b.Params) &&
		slices.EqualFunc(a.Body, b.Body, sameStmt)
}

// ends tells whether going through a tree of this size surely ends.
func ends(nodes, _ int) bool {
	return nodes < great
}

func sameExpr(a, b api.Expr) bool {
	return a.Op == b.Op &&
		a.N == b.N &&
		a.S == b.S &&
		a.Name == b.Name &&
		a.Src == b.Src &&
		slices.EqualFunc(a.Args, b.Args, sameExpr)
}

func sameStmt(a, b api.Stmt) bool {
	return a.Op == b.Op &&
		a.Name == b.Name &&
		a.Src == b.Src &&
		a.N == b.N &&
		slices.Equal(a.Cols, b.Cols) &&
		slices.EqualFunc(a.Exprs, b.Exprs, sameExpr) &&
		slices.EqualFunc(a.Body, b.Body, sameStmt) &&
		slices.EqualFunc(a.Else, b.Else, sameStmt)
}

// Copy is a procedure in memory of its own.
func Copy(p api.Proc) api.Proc {
	if !Right(p) {
		return api.Proc{}
	}
	p.Params = slices.Clone(p.Params)
	p.Body = copies(p.Body, copyStmt)
	return p
}

// copies are the copies of a list.
func copies[T any](l []T, one func(T) T) []T {
	var out []T
	for _, x := range l {
		out = append(out, one(x))
	}
	return out
}

func copyExpr(e api.Expr) api.Expr {
	e.Args = copies(e.Args, copyExpr)
	return e
}

func copyStmt(s api.Stmt) api.Stmt {
	s.Cols = slices.Clone(s.Cols)
	s.Exprs = copies(s.Exprs, copyExpr)
	s.Body = copies(s.Body, copyStmt)
	s.Else = copies(s.Else, copyStmt)
	return s
}
