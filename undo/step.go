package undo

import (
	"afflux/api"
	"afflux/table"
)

// inserted is a row that was put.
type inserted struct {
	*table.Table
	key string
}

// Back takes it away.
func (s inserted) Back() {
	s.Delete(s.key)
}

// updated is a row that was put, by its key, instead of another one.
type updated struct {
	*table.Table
	key string
	was []api.Value
}

// Back puts that one instead of it.
func (s updated) Back() {
	s.Update(s.key, s.was...)
}

// deleted is a row that was taken away.
type deleted struct {
	*table.Table
	was []api.Value
}

// Back puts it.
func (s deleted) Back() {
	s.Insert(s.was...)
}
