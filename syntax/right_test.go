package syntax_test

import (
	"math"
	"slices"
	"strings"
	"testing"

	"afflux/api"
	"afflux/syntax"
)

// P12.1.
func TestRightExpr(t *testing.T) {
	for i, e := range goodExprs() {
		if e.Op != i+1 {
			t.Fatalf("the good expression %d has the op %d", i, e.Op)
		}
		expectExpr(t, e, true)
	}
	for _, op := range []int{math.MinInt, -1, 0, 25, 26, math.MaxInt} {
		expectExpr(t, api.Expr{Op: op}, false)
		for _, e := range goodExprs() {
			e.Op = op
			expectExpr(t, e, false)
		}
	}
}

// only tells whether an op is one of these.
func only(ops ...int) func(op int) bool {
	return func(op int) bool { return slices.Contains(ops, op) }
}

// P12.1: each field of each op.
func TestExprFields(t *testing.T) {
	named := only(api.XVar, api.XCol, api.XCount, api.XSum, api.XMin, api.XMax)
	sourced := only(api.XCount, api.XSum, api.XMin, api.XMax)
	for i, good := range goodExprs() {
		op := i + 1
		try := func(want bool, spoil func(e *api.Expr)) {
			t.Helper()
			e := good
			spoil(&e)
			expectExpr(t, e, want)
		}
		for _, n := range []int64{2, 3, 256, 1 << 32, math.MaxInt64} {
			try(op == api.XInt, func(e *api.Expr) { e.N = n })
		}
		for _, n := range []int64{-1, -1 << 32, math.MinInt64} {
			try(false, func(e *api.Expr) { e.N = n })
		}
		try(only(api.XInt, api.XBool)(op), func(e *api.Expr) { e.N = 1 })
		try(true, func(e *api.Expr) { e.N = 0 })
		for _, s := range noNames {
			try(!named(op) && s == "", func(e *api.Expr) { e.Name = s })
			try(!sourced(op) && s == "", func(e *api.Expr) { e.Src = s })
			try(op == api.XText || op != api.XCol && s == "", func(e *api.Expr) { e.S = s })
		}
		for _, s := range []string{"x", "a_9", x17[:16]} {
			try(named(op), func(e *api.Expr) { e.Name = s })
			try(sourced(op), func(e *api.Expr) { e.Src = s })
			try(only(api.XText, api.XCol)(op), func(e *api.Expr) { e.S = s })
		}
		for _, s := range []string{"a\nb", "\xff\x00", strings.Repeat("x", 200)} {
			try(op == api.XText, func(e *api.Expr) { e.S = s })
		}
		try(false, func(e *api.Expr) { e.S = strings.Repeat("x", 201) })
		for n := range 5 {
			try(n == len(good.Args), func(e *api.Expr) { e.Args = slices.Repeat([]api.Expr{yes}, n) })
		}
		try(len(good.Args) == 0, func(e *api.Expr) { e.Args = []api.Expr{} })
	}
}

// P12.1: what is within has to be right, too, wherever it stands.
func TestRightWithin(t *testing.T) {
	bad := api.Expr{Op: api.XVar, Name: "if"}
	for _, e := range goodExprs() {
		for i := range e.Args {
			for _, inner := range goodExprs() {
				args := slices.Clone(e.Args)
				args[i] = inner
				e.Args = args
				expectExpr(t, e, true)
			}
			for _, inner := range []api.Expr{bad, {}, of(api.XNot, bad), of(api.XAdd, one, bad), tally(api.XSum, "r", "t", yes, of(api.XNeg, of(api.XNeg, bad)))} {
				args := slices.Clone(e.Args)
				args[i] = inner
				e := e
				e.Args = args
				expectExpr(t, e, false)
			}
		}
	}
}

// P12.1: depth and nodes of expressions.
func TestRightExprSizes(t *testing.T) {
	for _, c := range []struct {
		e    api.Expr
		want bool
	}{
		{chain(11), true}, {chain(12), true}, {chain(13), false}, {chain(1 << 16), false},
		{bush(8), true}, {bush(9), false}, {bush(12), false}, {bush(60), false}, {ring(), false},
		{of(api.XAdd, bush(8), of(api.XNeg, bush(5))), true},                                   // 255 + 1 + 31 + 1
		{of(api.XAdd, bush(8), of(api.XAdd, bush(5), chain(11))), false},                       // 255 + 31 + 11 + 2, 13 deep
		{of(api.XAdd, bush(8), of(api.XAdd, bush(5), chain(10))), true},                        // 298
		{of(api.XAdd, bush(8), of(api.XAdd, bush(5), of(api.XAdd, chain(9), chain(2)))), true}, // 300
		{of(api.XAdd, bush(8), of(api.XAdd, bush(5), of(api.XAdd, chain(9), chain(3)))), false},
	} {
		expectExpr(t, c.e, c.want)
	}
}

// P12.1.
func TestRight(t *testing.T) {
	expectProc(t, good(), true)
	expectProc(t, with(), true)
	expectProc(t, api.Proc{Name: "p", Fuel: 1, Params: []api.Column{}, Body: []api.Stmt{}}, true)
	expectProc(t, api.Proc{}, false)
	for i, s := range goodStmts() {
		if s.Op != i+1 {
			t.Fatalf("the good statement %d has the op %d", i, s.Op)
		}
		expectProc(t, with(s), true)
	}
	for _, op := range []int{math.MinInt, -1, 0, 11, 12, math.MaxInt} {
		expectProc(t, with(api.Stmt{Op: op}), false)
		for _, s := range goodStmts() {
			s.Op = op
			expectProc(t, with(s), false)
		}
	}
}

// P12.1: what stands around a body.
func TestRightHead(t *testing.T) {
	try := func(want bool, spoil func(p *api.Proc)) {
		t.Helper()
		p := good()
		spoil(&p)
		expectProc(t, p, want)
	}
	for _, s := range noNames {
		try(false, func(p *api.Proc) { p.Name = s })
		try(false, func(p *api.Proc) { p.Params[1].Name = s })
		try(s == "", func(p *api.Proc) { p.At = s })
		try(s == "", func(p *api.Proc) { p.From, p.At, p.Params = s, "", nil })
	}
	try(true, func(p *api.Proc) { p.Name = x17[:16] })
	for _, n := range []int{1, 2, 1999, 2000} {
		try(true, func(p *api.Proc) { p.Fuel = n })
	}
	for _, n := range []int{math.MinInt, -1, 0, 2001, math.MaxInt} {
		try(false, func(p *api.Proc) { p.Fuel = n })
	}
	for kind := -1; kind < 6; kind++ {
		try(1 <= kind && kind <= 3, func(p *api.Proc) { p.Params[2].Kind = kind })
	}
	for _, s := range []string{"x", "y", "z"} {
		try(true, func(p *api.Proc) { p.At = s })
	}
	try(false, func(p *api.Proc) { p.At = "w" })
	try(false, func(p *api.Proc) { p.Params = nil })
	try(false, func(p *api.Proc) { p.Params[0].Name = "y" })
	try(false, func(p *api.Proc) { p.Params[2].Name = "y" })
	eight := []api.Column{{Name: "a", Kind: 1}, {Name: "b", Kind: 1}, {Name: "c", Kind: 1}, {Name: "d", Kind: 1}, {Name: "e", Kind: 1}, {Name: "f", Kind: 1}, {Name: "g", Kind: 1}, {Name: "x", Kind: 1}}
	try(true, func(p *api.Proc) { p.Params = eight })
	try(false, func(p *api.Proc) { p.Params = append(eight, api.Column{Name: "y", Kind: 1}) })
	try(false, func(p *api.Proc) { p.Params = make([]api.Column, 1<<16) })
	// What takes batches has neither parameters nor partitions of them.
	try(false, func(p *api.Proc) { p.From = "s" })
	try(false, func(p *api.Proc) { p.From, p.At = "s", "" })
	try(false, func(p *api.Proc) { p.From, p.Params = "s", nil })
	try(true, func(p *api.Proc) { p.From, p.At, p.Params = "s", "", nil })
	try(true, func(p *api.Proc) { p.From, p.At, p.Params = "p", "", []api.Column{} })
}

// P12.1: each field of each statement.
func TestStmtFields(t *testing.T) {
	named := only(api.SLet, api.SSet, api.SUpdate, api.SDelete, api.SFor)
	sourced := only(api.SInsert, api.SUpdate, api.SDelete, api.SFor, api.SEmit)
	many := only(api.SInsert, api.SEmit, api.SReply)
	for i, good := range goodStmts() {
		op := i + 1
		try := func(want bool, spoil func(s *api.Stmt)) {
			t.Helper()
			s := good
			spoil(&s)
			expectProc(t, with(s), want)
		}
		for _, s := range noNames {
			try(!named(op) && s == "", func(x *api.Stmt) { x.Name = s })
			try(!sourced(op) && s == "", func(x *api.Stmt) { x.Src = s })
			try(false, func(x *api.Stmt) { x.Cols = []string{"a", s} })
		}
		for _, s := range []string{"x", "a_9", x17[:16]} {
			try(named(op), func(x *api.Stmt) { x.Name = s })
			try(sourced(op), func(x *api.Stmt) { x.Src = s })
		}
		for _, n := range []int{1, 2, 999, 1000} {
			try(op == api.SFor, func(x *api.Stmt) { x.N = n })
		}
		try(true, func(x *api.Stmt) { x.N = 0 })
		for _, n := range []int{math.MinInt, -1, 1001, math.MaxInt} {
			try(false, func(x *api.Stmt) { x.N = n })
		}
		for n := range 12 {
			fits := n == 1 && op != api.SUpdate || n == 3 && op == api.SUpdate || 1 <= n && n <= 8 && many(op)
			try(fits, func(x *api.Stmt) { x.Exprs = slices.Repeat([]api.Expr{yes}, n) })
		}
		try(op != api.SUpdate, func(x *api.Stmt) { x.Cols = []string{} })
		try(op == api.SUpdate, func(x *api.Stmt) { x.Cols = []string{"b", "a"} })
		try(false, func(x *api.Stmt) { x.Cols = []string{"a", "a"} })
		try(op == api.SFor || op == api.SIf, func(x *api.Stmt) { x.Body = wide(2) })
		try(op == api.SIf, func(x *api.Stmt) { x.Else = wide(2) })
		try(true, func(x *api.Stmt) { x.Body, x.Else = nil, []api.Stmt{} })
	}
}

// P12.1: as many columns as may be, and one more expression.
func TestRightColumns(t *testing.T) {
	cols := []string{"a", "b", "c", "d", "e", "f", "g", "h", "i"}
	for n := range 10 {
		for m := range 12 {
			s := api.Stmt{Op: api.SUpdate, Name: "r", Src: "t", Cols: cols[:n], Exprs: slices.Repeat([]api.Expr{yes}, m)}
			expectProc(t, with(s), 1 <= n && n <= 8 && m == n+1)
		}
	}
	for i := range 8 {
		l := slices.Clone(cols[:8])
		l[i] = cols[(i+3)%8]
		expectProc(t, with(api.Stmt{Op: api.SUpdate, Name: "r", Src: "t", Cols: l, Exprs: slices.Repeat([]api.Expr{yes}, 9)}), false)
	}
	expectProc(t, with(api.Stmt{Op: api.SUpdate, Name: "r", Src: "t", Cols: make([]string, 1<<16), Exprs: []api.Expr{yes}}), false)
}

// P12.1: what is within has to be right, too, wherever it stands.
func TestRightBodies(t *testing.T) {
	inner := []api.Stmt{{}, {Op: api.SLet, Name: "if", Exprs: []api.Expr{one}}, {Op: api.SAbort}, {Op: api.SReply, Exprs: []api.Expr{of(api.XNot, api.Expr{})}}}
	for i, s := range append(goodStmts(), inner...) {
		want := i < 10
		around := []api.Stmt{
			{Op: api.SFor, Name: "r", Src: "t", Exprs: []api.Expr{yes}, Body: []api.Stmt{s}},
			{Op: api.SIf, Exprs: []api.Expr{yes}, Body: []api.Stmt{s}},
			{Op: api.SIf, Exprs: []api.Expr{yes}, Else: []api.Stmt{s}},
			{Op: api.SIf, Exprs: []api.Expr{yes}, Body: wide(1), Else: []api.Stmt{{Op: api.SFor, Name: "r", Src: "t", Exprs: []api.Expr{yes}, Body: append(wide(1), s)}}},
		}
		for _, a := range around {
			expectProc(t, with(a), want)
			expectProc(t, with(append(wide(2), a, ifs(3))...), want)
		}
		expectProc(t, with(append(wide(3), s)...), want)
	}
	for _, s := range goodStmts() {
		for i := range s.Exprs {
			for _, bad := range []api.Expr{{}, {Op: api.XInt, N: -1}, of(api.XNeg, api.Expr{Op: api.XVar}), tally(api.XCount, "r", "in", yes)} {
				l := slices.Clone(s.Exprs)
				l[i] = bad
				s := s
				s.Exprs = l
				expectProc(t, with(s), false)
			}
		}
	}
}

// P12.1: depth and nodes of procedures.
func TestRightSizes(t *testing.T) {
	for _, c := range []struct {
		p    api.Proc
		want bool
	}{
		{with(wide(150)...), true}, // 300
		{with(wide(151)...), false},
		{with(append(wide(149), replies(of(api.XNeg, one))...)...), false}, // 301
		{with(append(wide(148), replies(of(api.XNeg, one))...)...), true},
		{with(ifs(12)), true},
		{with(ifs(13)), false},
		{with(replies(chain(11))...), true},
		{with(replies(chain(12))...), false},
		{with(append(wide(9), ifs(13))...), false},
		{with(replies(bush(8), of(api.XAdd, bush(5), chain(10)))...), true}, // 255 + 31 + 10 + 1 + 1
		{with(replies(bush(9))...), false},
	} {
		expectProc(t, c.p, c.want)
	}
	for _, p := range endless() {
		expectProc(t, p, false)
	}
}

// What is handed in stays.
func TestRightChangesNothing(t *testing.T) {
	p, e := good(), bush(5)
	syntax.Right(p)
	syntax.RightExpr(e)
	syntax.Size(p)
	syntax.SizeExpr(e)
	if !syntax.Same(p, good()) || !syntax.SameExpr(e, bush(5)) {
		t.Errorf("it was changed: %v, %v", p, e)
	}
}
