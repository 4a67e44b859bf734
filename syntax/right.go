package syntax

import (
	"math"
	"slices"

	"afflux/api"
)

// RightExpr tells whether an expression is right.
func RightExpr(e api.Expr) bool {
	return fitting(SizeExpr(e)) && rightExprs(exprs(e))
}

// Right tells whether a procedure is right.
func Right(p api.Proc) bool {
	if !fitting(Size(p)) || !rightHead(p) {
		return false
	}
	stmts, l := nodes(p)
	return rightStmts(stmts) && rightExprs(l)
}

// fitting tells whether a tree is small enough. It is asked first: of others not
// all can be gone through.
func fitting(nodes, depth int) bool {
	return nodes <= api.MaxNodes && depth <= api.MaxDeep
}

func rightHead(p api.Proc) bool {
	return Free(p.Name) && rightParams(p.Params) && rightStart(p) && between(1, p.Fuel, api.MaxFuel)
}

// rightParams counts first: holding all of a list against one another wouldn't end
// soon if it were long.
func rightParams(params []api.Column) bool {
	if len(params) > api.MaxCols {
		return false
	}
	var names []string
	for _, p := range params {
		if !between(api.KInt, p.Kind, api.KBool) {
			return false
		}
		names = append(names, p.Name)
	}
	return Free(names...) && unlike(names)
}

// rightStart tells of what a procedure is started by, a call or a batch.
func rightStart(p api.Proc) bool {
	if p.From != "" {
		return Free(p.From) && len(p.Params) == 0 && p.At == ""
	}
	return p.At == "" || slices.ContainsFunc(p.Params, func(c api.Column) bool { return c.Name == p.At })
}

func between[T int | int64](low, n, high T) bool {
	return low <= n && n <= high
}

// unlike tells whether no two of a list are the same.
func unlike[T comparable](l []T) bool {
	for i, x := range l {
		if slices.Contains(l[:i], x) {
			return false
		}
	}
	return true
}

// nameWhere tells whether there is a name where one stands, and nothing elsewhere.
func nameWhere(stands bool, s string) bool {
	if stands {
		return Free(s)
	}
	return s == ""
}

// exprForm is what the op of an expression asks of its fields.
type exprForm struct {
	most      int64 // N is from 0 to this
	name, src bool
	args      int
}

// formOfExpr is an op's form; false of what is no op.
func formOfExpr(op int) (exprForm, bool) {
	switch op {
	case api.XInt:
		return exprForm{most: math.MaxInt64}, true
	case api.XText:
		return exprForm{}, true
	case api.XBool:
		return exprForm{most: 1}, true
	case api.XVar, api.XCol:
		return exprForm{name: true}, true
	case api.XAdd, api.XSub, api.XMul, api.XDiv, api.XMod,
		api.XEq, api.XNe, api.XLt, api.XLe, api.XGe, api.XGt, api.XAnd, api.XOr:
		return exprForm{args: 2}, true
	case api.XNot, api.XNeg:
		return exprForm{args: 1}, true
	case api.XCount:
		return exprForm{name: true, src: true, args: 1}, true
	case api.XSum, api.XMin, api.XMax:
		return exprForm{name: true, src: true, args: 2}, true
	}
	return exprForm{}, false
}

func rightExprs(l []api.Expr) bool {
	return !slices.ContainsFunc(l, func(e api.Expr) bool { return !rightExpr(e) })
}

// rightExpr tells of an expression's own fields.
func rightExpr(e api.Expr) bool {
	f, ok := formOfExpr(e.Op)
	return ok &&
		between(0, e.N, f.most) &&
		rightText(e) &&
		nameWhere(f.name, e.Name) &&
		nameWhere(f.src, e.Src) &&
		len(e.Args) == f.args
}

// rightText tells of an expression's S, which isn't a name of every op that has it.
func rightText(e api.Expr) bool {
	if e.Op == api.XText {
		return len(e.S) <= api.MaxText
	}
	return nameWhere(e.Op == api.XCol, e.S)
}

// stmtForm is what the op of a statement asks of its fields.
type stmtForm struct {
	name, src, cols bool
	rows            int // N is from 0 to this
	least, most     int // how many expressions there are
	body, other     bool
}

// formOfStmt is a statement's form; false of what is none.
func formOfStmt(s api.Stmt) (stmtForm, bool) {
	switch s.Op {
	case api.SLet, api.SSet:
		return stmtForm{name: true, least: 1, most: 1}, true
	case api.SInsert, api.SEmit:
		return stmtForm{src: true, least: 1, most: api.MaxCols}, true
	case api.SUpdate:
		n := len(s.Cols) + 1
		return stmtForm{name: true, src: true, cols: true, least: n, most: n}, true
	case api.SDelete:
		return stmtForm{name: true, src: true, least: 1, most: 1}, true
	case api.SFor:
		return stmtForm{name: true, src: true, rows: api.MaxRows, least: 1, most: 1, body: true}, true
	case api.SIf:
		return stmtForm{least: 1, most: 1, body: true, other: true}, true
	case api.SAbort:
		return stmtForm{least: 1, most: 1}, true
	case api.SReply:
		return stmtForm{least: 1, most: api.MaxCols}, true
	}
	return stmtForm{}, false
}

func rightStmts(l []api.Stmt) bool {
	return !slices.ContainsFunc(l, func(s api.Stmt) bool { return !rightStmt(s) })
}

// rightStmt tells of a statement's own fields.
func rightStmt(s api.Stmt) bool {
	f, ok := formOfStmt(s)
	return ok &&
		nameWhere(f.name, s.Name) &&
		nameWhere(f.src, s.Src) &&
		between(0, s.N, f.rows) &&
		colsWhere(f.cols, s.Cols) &&
		between(f.least, len(s.Exprs), f.most) &&
		(f.body || len(s.Body) == 0) &&
		(f.other || len(s.Else) == 0)
}

// colsWhere tells whether there are columns where they stand, and none elsewhere.
func colsWhere(stand bool, cols []string) bool {
	if stand {
		return between(1, len(cols), api.MaxCols) && Free(cols...) && unlike(cols)
	}
	return len(cols) == 0
}
