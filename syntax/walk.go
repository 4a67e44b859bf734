package syntax

import (
	"slices"

	"afflux/api"
)

// all is what a list has, each ahead of what is within it.
func all[T any](l []T, within func(T) []T) []T {
	var out []T
	for _, x := range l {
		out = append(out, x)
		out = append(out, all(within(x), within)...)
	}
	return out
}

// exprs are expressions, and those within them.
func exprs(l ...api.Expr) []api.Expr {
	return all(l, func(e api.Expr) []api.Expr { return e.Args })
}

// nodes are a procedure's statements and expressions.
func nodes(p api.Proc) ([]api.Stmt, []api.Expr) {
	stmts := all(p.Body, func(s api.Stmt) []api.Stmt { return slices.Concat(s.Body, s.Else) })
	var l []api.Expr
	for _, s := range stmts {
		l = append(l, exprs(s.Exprs...)...)
	}
	return stmts, l
}
