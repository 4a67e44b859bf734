package syntax

import (
	"slices"

	"afflux/api"
)

// Reads is what a procedure reads.
func Reads(p api.Proc) []string {
	return sources(p, []int{api.SUpdate, api.SDelete, api.SFor}, []int{api.XCount, api.XSum, api.XMin, api.XMax})
}

// Writes is what a procedure writes.
func Writes(p api.Proc) []string {
	return sources(p, []int{api.SInsert, api.SUpdate, api.SDelete}, nil)
}

// Emits is where a procedure emits.
func Emits(p api.Proc) []string {
	return sources(p, []int{api.SEmit}, nil)
}

// sources are the sources of a right procedure's statements and expressions of some
// ops, rising, each once.
func sources(p api.Proc, stmtOps, exprOps []int) []string {
	if !Right(p) {
		return nil
	}
	stmts, l := nodes(p)
	var names []string
	for _, s := range stmts {
		if slices.Contains(stmtOps, s.Op) {
			names = append(names, s.Src)
		}
	}
	for _, e := range l {
		if slices.Contains(exprOps, e.Op) {
			names = append(names, e.Src)
		}
	}
	slices.Sort(names)
	return slices.Compact(names)
}
