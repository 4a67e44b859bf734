package syntax_test

import (
	"slices"
	"testing"

	"afflux/api"
	"afflux/syntax"
)

func expectSameExpr(t *testing.T, a, b api.Expr, want bool) {
	t.Helper()
	if syntax.SameExpr(a, b) != want || syntax.SameExpr(b, a) != want {
		t.Errorf("SameExpr of %v and %v: %t, %t", a, b, syntax.SameExpr(a, b), syntax.SameExpr(b, a))
	}
	p, q := with(append(replies(one), replies(a)...)...), with(append(replies(one), replies(b)...)...)
	if syntax.Same(p, q) != want || syntax.Same(q, p) != want {
		t.Errorf("Same with %v and with %v: %t, %t", a, b, syntax.Same(p, q), syntax.Same(q, p))
	}
}

func expectSame(t *testing.T, a, b api.Proc, want bool) {
	t.Helper()
	if syntax.Same(a, b) != want || syntax.Same(b, a) != want {
		t.Errorf("Same of %v and %v: %t, %t", a, b, syntax.Same(a, b), syntax.Same(b, a))
	}
}

// P12.2: each field of expressions, right ones and others.
func TestSameExpr(t *testing.T) {
	all := append(goodExprs(), api.Expr{}, api.Expr{Op: -1, N: -5, S: "s", Name: "IF", Src: "\x00"}, of(api.XInt, one, one, one), of(0, of(0, of(0))))
	for i, a := range all {
		for j, b := range all {
			expectSameExpr(t, a, b, i == j)
		}
		for _, spoil := range []func(e *api.Expr){
			func(e *api.Expr) { e.Op += 100 },
			func(e *api.Expr) { e.N += 2 },
			func(e *api.Expr) { e.N -= 1 << 32 },
			func(e *api.Expr) { e.S += "x" },
			func(e *api.Expr) { e.Name += "_" },
			func(e *api.Expr) { e.Src += "1" },
			func(e *api.Expr) { e.Args = append([]api.Expr{one}, e.Args...) },
			func(e *api.Expr) { e.Args = append(slices.Clone(e.Args), api.Expr{}) },
		} {
			b := a
			spoil(&b)
			expectSameExpr(t, a, b, false)
			// As deep as it may be.
			expectSameExpr(t, of(api.XAdd, one, of(api.XNot, a)), of(api.XAdd, one, of(api.XNot, b)), false)
		}
	}
	expectSameExpr(t, of(api.XSub, one, yes), of(api.XSub, yes, one), false)
	expectSameExpr(t, of(api.XSub, one), of(api.XSub, one, one), false)
	expectSameExpr(t, chain(12), chain(12), true)
	expectSameExpr(t, chain(12), chain(11), false)
	expectSameExpr(t, chain(298), chain(298), true)
	expectSameExpr(t, of(1, slices.Repeat([]api.Expr{one}, 297)...), of(1, slices.Repeat([]api.Expr{one}, 297)...), true)
	expectSameExpr(t, of(1, slices.Repeat([]api.Expr{one}, 297)...), of(1, append(slices.Repeat([]api.Expr{one}, 296), yes)...), false)
}

// P12.2: nil and empty lists are one.
func TestSameEmpty(t *testing.T) {
	expectSameExpr(t, api.Expr{Op: 1}, api.Expr{Op: 1, Args: []api.Expr{}}, true)
	expectSame(t, api.Proc{}, api.Proc{Params: []api.Column{}, Body: []api.Stmt{}}, true)
	expectSame(t, with(api.Stmt{}), with(api.Stmt{Cols: []string{}, Exprs: []api.Expr{}, Body: []api.Stmt{}, Else: []api.Stmt{}}), true)
}

// P12.2: each field of procedures, right ones and others.
func TestSame(t *testing.T) {
	for _, make := range []func() api.Proc{good, func() api.Proc { return with() }, func() api.Proc { return api.Proc{} }} {
		expectSame(t, make(), make(), true)
		for _, spoil := range []func(p *api.Proc){
			func(p *api.Proc) { p.Name += "q" },
			func(p *api.Proc) { p.From = "s" },
			func(p *api.Proc) { p.At += "y" },
			func(p *api.Proc) { p.Fuel++ },
			func(p *api.Proc) { p.Params = append(p.Params, api.Column{}) },
			func(p *api.Proc) { p.Body = append(p.Body, api.Stmt{}) },
			func(p *api.Proc) { p.Body = append([]api.Stmt{{}}, p.Body...) },
		} {
			p := make()
			spoil(&p)
			expectSame(t, p, make(), false)
		}
	}
	for _, spoil := range []func(p *api.Proc){
		func(p *api.Proc) { p.Params[0].Name = "w" },
		func(p *api.Proc) { p.Params[2].Kind = 1 },
		func(p *api.Proc) { p.Params[0], p.Params[1] = p.Params[1], p.Params[0] },
		func(p *api.Proc) { p.Params = p.Params[:2] },
		func(p *api.Proc) { p.Body = p.Body[1:] },
		func(p *api.Proc) { p.Body = p.Body[:len(p.Body)-1] },
		func(p *api.Proc) { p.Body[0], p.Body[1] = p.Body[1], p.Body[0] },
		func(p *api.Proc) { p.Body = nil },
	} {
		p := good()
		spoil(&p)
		expectSame(t, p, good(), false)
	}
}

// P12.2: each field of statements, right ones and others, also within others.
func TestSameStmts(t *testing.T) {
	all := append(goodStmts(), api.Stmt{}, api.Stmt{Op: -1, Name: "IF", Src: "\x00", N: -9, Cols: []string{"", ""}})
	for i, a := range all {
		for j, b := range all {
			expectSame(t, with(a), with(b), i == j)
		}
		for _, spoil := range []func(s *api.Stmt){
			func(s *api.Stmt) { s.Op += 50 },
			func(s *api.Stmt) { s.Name += "_" },
			func(s *api.Stmt) { s.Src += "_" },
			func(s *api.Stmt) { s.N++ },
			func(s *api.Stmt) { s.Cols = append([]string{"z"}, s.Cols...) },
			func(s *api.Stmt) { s.Cols = append(slices.Clone(s.Cols), "") },
			func(s *api.Stmt) { s.Exprs = append([]api.Expr{{}}, s.Exprs...) },
			func(s *api.Stmt) { s.Exprs = append(slices.Clone(s.Exprs), chain(3)) },
			func(s *api.Stmt) { s.Body = append([]api.Stmt{{}}, s.Body...) },
			func(s *api.Stmt) { s.Else = append([]api.Stmt{{}}, s.Else...) },
			func(s *api.Stmt) { s.Body, s.Else = append(wide(1), s.Else...), s.Body },
		} {
			b := a
			spoil(&b)
			expectSame(t, with(a), with(b), false)
			expectSame(t, with(api.Stmt{Body: []api.Stmt{a}}), with(api.Stmt{Body: []api.Stmt{b}}), false)
			expectSame(t, with(api.Stmt{Else: []api.Stmt{{}, a}}), with(api.Stmt{Else: []api.Stmt{{}, b}}), false)
		}
	}
	expectSame(t, with(wide(150)...), with(wide(150)...), true)
	expectSame(t, with(wide(150)...), with(append(wide(149), replies(yes)...)...), false)
	expectSame(t, with(wide(150)...), with(wide(149)...), false)
	a, b := api.Stmt{Op: api.SUpdate, Cols: []string{"a", "b"}}, api.Stmt{Op: api.SUpdate, Cols: []string{"b", "a"}}
	expectSame(t, with(a), with(b), false)
}

// P12.2: of greater ones only that it ends is promised.
func TestSameEnds(t *testing.T) {
	for _, p := range endless() {
		for _, q := range append(endless(), good(), with(replies(chain(1<<16))...)) {
			syntax.Same(p, q)
			syntax.Same(q, p)
		}
	}
	for _, a := range []api.Expr{ring(), bush(60), chain(1 << 16)} {
		for _, b := range []api.Expr{ring(), bush(60), chain(1 << 16), one} {
			syntax.SameExpr(a, b)
			syntax.SameExpr(b, a)
		}
	}
	expectSame(t, with(replies(ring())...), with(replies(chain(200))...), false)
	expectSameExpr(t, ring(), of(api.XNeg, ring(), one), false)
}

// P12.2.
func TestCopy(t *testing.T) {
	called := api.Proc{Name: "p", From: "s", Fuel: 2000, Body: []api.Stmt{}}
	for _, p := range []api.Proc{good(), with(), called, with(goodStmts()...), with(wide(150)...), with(ifs(12)), with(replies(goodExprs()...)...)} {
		if c := syntax.Copy(p); !syntax.Same(c, p) || !syntax.Right(c) {
			t.Errorf("Copy(%v): %v", p, c)
		}
	}
	wrongs := []api.Proc{{}, with(wide(151)...), with(api.Stmt{}), with(ifs(13)), with(replies(api.Expr{})...)}
	for _, p := range append(wrongs, endless()...) {
		if c := syntax.Copy(p); !syntax.Same(c, api.Proc{}) || c.Params != nil || c.Body != nil {
			t.Errorf("Copy of a wrong one: %v", c)
		}
	}
}

// P12.2: in memory of its own, of which no two lists share any.
func TestCopyIsNew(t *testing.T) {
	deep := func() api.Proc {
		p := good()
		s := api.Stmt{Op: api.SUpdate, Name: "r", Src: "t", Cols: []string{"a", "b"}, Exprs: []api.Expr{bush(3), one, of(api.XNeg, one)}}
		p.Body = append(p.Body, api.Stmt{
			Op: api.SIf, Exprs: []api.Expr{bush(4)},
			Body: []api.Stmt{s, s, {Op: api.SFor, Name: "r", Src: "t", Exprs: []api.Expr{yes}, Body: []api.Stmt{s}}},
			Else: []api.Stmt{s},
		})
		return p
	}
	p := deep()
	c := syntax.Copy(p)
	var x spoiler
	x.proc(c)
	if !syntax.Same(p, deep()) {
		t.Error("the first one was changed with its copy")
	}
	if x.twice > 0 || len(x.seen) < 60 {
		t.Errorf("of %d items %d are there twice", len(x.seen), x.twice)
	}
	c = syntax.Copy(p)
	new(spoiler).proc(p)
	if !syntax.Same(c, deep()) {
		t.Error("the copy was changed with the first one")
	}
}

// spoiler changes all that lists hold; it tells how many items it met twice.
type spoiler struct {
	seen  map[any]bool
	twice int
}

func (x *spoiler) see(at any) {
	if x.seen == nil {
		x.seen = map[any]bool{}
	}
	if x.seen[at] {
		x.twice++
	}
	x.seen[at] = true
}

func (x *spoiler) proc(p api.Proc) {
	for i := range p.Params {
		x.see(&p.Params[i])
		p.Params[i] = api.Column{}
	}
	x.stmts(p.Body)
}

func (x *spoiler) stmts(l []api.Stmt) {
	for i := range l {
		x.see(&l[i])
		x.stmts(l[i].Body)
		x.stmts(l[i].Else)
		x.exprs(l[i].Exprs)
		for k := range l[i].Cols {
			x.see(&l[i].Cols[k])
			l[i].Cols[k] = "spoilt"
		}
		l[i] = api.Stmt{}
	}
}

func (x *spoiler) exprs(l []api.Expr) {
	for i := range l {
		x.see(&l[i])
		x.exprs(l[i].Args)
		l[i] = api.Expr{}
	}
}
