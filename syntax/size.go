package syntax

import (
	"afflux/api"
)

// great is what isn't counted any more: a tree may hold itself, or one branch many
// times over, so that counting it to its end might never end.
const great = 1000

// size is nodes and depth.
type size struct {
	nodes, depth int
}

// beside is the size of what stands side by side.
func (s size) beside(t size) size {
	return size{s.nodes + t.nodes, max(s.depth, t.depth)}
}

// around is the size of a node with what is within it.
func (s size) around() size {
	return size{s.nodes + 1, s.depth + 1}
}

// told is a size as it is answered.
func (s size) told() (int, int) {
	if s.nodes >= great { // no depth is above its nodes
		return great, great
	}
	return s.nodes, s.depth
}

// sizes is the size of a list, counted up to so many nodes by the size of one.
func sizes[T any](l []T, room int, one func(x T, room int) size) size {
	var all size
	for _, x := range l {
		if all.nodes >= room {
			break
		}
		all = all.beside(one(x, room-all.nodes))
	}
	return all
}

func sizeExpr(e api.Expr, room int) size {
	return sizes(e.Args, room-1, sizeExpr).around()
}

func sizeStmt(s api.Stmt, room int) size {
	in := sizes(s.Exprs, room-1, sizeExpr)
	in = in.beside(sizes(s.Body, room-1-in.nodes, sizeStmt))
	in = in.beside(sizes(s.Else, room-1-in.nodes, sizeStmt))
	return in.around()
}

// SizeExpr is an expression's nodes and depth.
func SizeExpr(e api.Expr) (int, int) {
	return sizeExpr(e, great).told()
}

// Size is a procedure's nodes and depth.
func Size(p api.Proc) (int, int) {
	return sizes(p.Body, great, sizeStmt).told()
}
