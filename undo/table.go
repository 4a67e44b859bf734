package undo

import (
	"afflux/api"
	"afflux/table"
)

// Table is a table whose changes are noted.
type Table struct {
	*table.Table
	journal *Journal
}

// Track lets a journal note tables' changes.
func Track(j *Journal, l ...*table.Table) []*Table {
	var out []*Table
	for _, t := range l {
		out = append(out, &Table{t, j})
	}
	return out
}

// own is the table that is tracked; nil, if there is none.
func (t *Table) own() *table.Table {
	if t == nil {
		return nil
	}
	return t.Table
}

// Insert puts a row.
func (t *Table) Insert(row ...api.Value) api.Errno {
	own := t.own()
	e := own.Insert(row...)
	if e == api.OK {
		key, _ := own.Key(row...)
		t.journal.Note(inserted{own, key})
	}
	return e
}

// Update puts a row instead of another one.
func (t *Table) Update(key string, row ...api.Value) api.Errno {
	own := t.own()
	was, _ := own.Get(key)
	e := own.Update(key, row...)
	if e == api.OK {
		key, _ := own.Key(row...)
		t.journal.Note(updated{own, key, was})
	}
	return e
}

// Delete takes a row away.
func (t *Table) Delete(key string) api.Errno {
	own := t.own()
	was, _ := own.Get(key)
	e := own.Delete(key)
	if e == api.OK {
		t.journal.Note(deleted{own, was})
	}
	return e
}

// Clear takes all rows away.
func (t *Table) Clear() api.Errno {
	own := t.own()
	if own == nil {
		return api.ErrArg
	}
	for _, row := range own.Rows() {
		key, _ := own.Key(row...)
		if e := t.Delete(key); e != api.OK {
			return e
		}
	}
	return api.OK
}
