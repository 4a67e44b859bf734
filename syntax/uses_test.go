package syntax_test

import (
	"slices"
	"testing"

	"afflux/api"
	"afflux/syntax"
)

func expectUses(t *testing.T, p api.Proc, reads, writes, emits []string) {
	t.Helper()
	if r, w, e := syntax.Reads(p), syntax.Writes(p), syntax.Emits(p); !slices.Equal(r, reads) || !slices.Equal(w, writes) || !slices.Equal(e, emits) {
		t.Errorf("%v reads %v, writes %v, emits into %v; want %v, %v, %v", p, r, w, e, reads, writes, emits)
	}
}

func deletes(name, src string, where api.Expr) api.Stmt {
	return api.Stmt{Op: api.SDelete, Name: name, Src: src, Exprs: []api.Expr{where}}
}

func inserts(src string, l ...api.Expr) api.Stmt {
	return api.Stmt{Op: api.SInsert, Src: src, Exprs: l}
}

func emits(src string, l ...api.Expr) api.Stmt {
	return api.Stmt{Op: api.SEmit, Src: src, Exprs: l}
}

func fors(src string, where api.Expr, body ...api.Stmt) api.Stmt {
	return api.Stmt{Op: api.SFor, Name: "r", Src: src, Exprs: []api.Expr{where}, Body: body}
}

// P12.2: the document's example, and each op alone.
func TestUses(t *testing.T) {
	expectUses(t, with(), nil, nil, nil)
	expectUses(t, with(deletes("a", "t", yes)), []string{"t"}, []string{"t"}, nil)
	for _, s := range goodStmts() {
		var reads, writes, emits []string
		if only(api.SUpdate, api.SDelete, api.SFor)(s.Op) {
			reads = []string{"t"}
		}
		if only(api.SInsert, api.SUpdate, api.SDelete)(s.Op) {
			writes = []string{"t"}
		}
		if s.Op == api.SEmit {
			emits = []string{"s"}
		}
		expectUses(t, with(s), reads, writes, emits)
	}
	for _, e := range goodExprs() {
		var reads []string
		if only(api.XCount, api.XSum, api.XMin, api.XMax)(e.Op) {
			reads = []string{"t"}
		}
		expectUses(t, with(replies(e)...), reads, nil, nil)
	}
	expectUses(t, good(), []string{"t"}, []string{"t"}, []string{"s"})
}

// P12.2: all names, rising, each once, wherever they stand.
func TestUsesWithin(t *testing.T) {
	in := func(src string, inner api.Expr) api.Expr { return tally(api.XSum, "r", src, yes, inner) }
	p := with(
		emits("z", in("w9", one)),
		fors("m", tally(api.XCount, "r", "k", yes),
			inserts("q", in("b", in("a", tally(api.XMax, "r", "w", tally(api.XMin, "r", "c", yes, one), one)))),
			api.Stmt{Op: api.SIf, Exprs: []api.Expr{in("d", one)},
				Body: []api.Stmt{emits("b", one), deletes("r", "x", yes)},
				Else: []api.Stmt{emits("a", of(api.XNeg, of(api.XAdd, one, in("e", one)))), inserts("a", one), fors("y", yes, emits("b", one))},
			},
		),
		api.Stmt{Op: api.SUpdate, Name: "r", Src: "u", Cols: []string{"a"}, Exprs: []api.Expr{yes, in("v", one)}},
		inserts("x", one),
		emits("z", one),
	)
	expectUses(t, p,
		[]string{"a", "b", "c", "d", "e", "k", "m", "u", "v", "w", "w9", "x", "y"},
		[]string{"a", "q", "u", "x"},
		[]string{"a", "b", "z"})
}

// P12.2: byte by byte, with names of which one begins another one.
func TestUsesRise(t *testing.T) {
	names := []string{"b", "a_", "a1", "ab", "a", "b1", "a", "b", "a_b", "ab"}
	rising := []string{"a", "a1", "a_", "a_b", "ab", "b", "b1"}
	var all, ins, outs []api.Stmt
	for _, n := range names {
		all = append(all, fors(n, yes))
		ins = append(ins, inserts(n, one))
		outs = append(outs, emits(n, one))
	}
	expectUses(t, with(slices.Concat(all, ins, outs)...), rising, rising, rising)
	expectUses(t, with(all...), rising, nil, nil)
	expectUses(t, with(ins...), nil, rising, nil)
	expectUses(t, with(outs...), nil, nil, rising)
}

// P12.2: of one that isn't right nothing.
func TestUsesOfWrongs(t *testing.T) {
	l := []api.Stmt{deletes("r", "t", yes), emits("s", one)}
	expectUses(t, with(l...), []string{"t"}, []string{"t"}, []string{"s"})
	for _, wrong := range []api.Stmt{{}, inserts("if", one), inserts("t"), emits("s", api.Expr{Op: api.XVar}), ifs(13)} {
		expectUses(t, with(append(slices.Clone(l), wrong)...), nil, nil, nil)
	}
	expectUses(t, with(append(wide(149), l...)...), nil, nil, nil)
	expectUses(t, with(append(wide(148), l...)...), []string{"t"}, []string{"t"}, []string{"s"})
	p := with(l...)
	p.Fuel = 0
	expectUses(t, p, nil, nil, nil)
	for _, p := range endless() {
		expectUses(t, p, nil, nil, nil)
	}
}

// P12.2: what is answered is new memory, and what is handed in stays.
func TestUsesAreNew(t *testing.T) {
	p := good()
	for _, uses := range []func(api.Proc) []string{syntax.Reads, syntax.Writes, syntax.Emits} {
		uses(p)[0] = "x"
	}
	expectUses(t, p, []string{"t"}, []string{"t"}, []string{"s"})
	if !syntax.Same(p, good()) {
		t.Errorf("it was changed: %v", p)
	}
}
