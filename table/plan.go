package table

import (
	"slices"

	"afflux/api"
	"afflux/schema"
)

// plan is which rows a table may have, and how these are laid.
type plan struct {
	schema api.Schema
}

// record is a row as it is laid: its keys by all indexes, and its partition. It
// is never changed: all indexes have the same one.
type record struct {
	row  []api.Value
	keys []string
	part int
}

// lay is a row's record, in memory of its own.
func (p *plan) lay(row []api.Value) (*record, api.Errno) {
	keys, e := schema.Keys(p.schema, row...)
	if e != api.OK {
		return nil, e
	}
	part, e := schema.Part(p.schema, row...)
	if e != api.OK {
		return nil, e
	}
	return &record{slices.Clone(row), keys, part}, api.OK
}

// empty is the indexes of a table without rows.
func (p *plan) empty() []index {
	var out []index
	for range p.schema.Indexes {
		out = append(out, newIndex())
	}
	return out
}

// in tells whether a record is in one of some partitions; of none told it is.
func (r *record) in(parts []int) bool {
	return len(parts) == 0 || slices.Contains(parts, r.part)
}

// told is the row, for one who may change it.
func (r *record) told() []api.Value {
	return slices.Clone(r.row)
}
