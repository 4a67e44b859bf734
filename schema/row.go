package schema

import (
	"slices"

	"afflux/api"
	"afflux/value"
)

// Zero is a row of nothing.
func Zero(s api.Schema) []api.Value {
	row := make([]api.Value, len(s.Cols))
	for i, c := range s.Cols {
		if rightKind(c.Kind) {
			row[i].Kind = c.Kind
		}
	}
	return row
}

// Fits tells whether a row fits a schema.
func Fits(s api.Schema, row ...api.Value) bool {
	return Right(s) && fits(s, row)
}

func fits(s api.Schema, row []api.Value) bool {
	return slices.EqualFunc(s.Cols, row, func(c api.Column, v api.Value) bool {
		return v.Kind == c.Kind && value.Right(v)
	})
}

// Pick is a row's values at some places.
func Pick(row []api.Value, places ...int) []api.Value {
	var out []api.Value
	for _, p := range places {
		if !between(0, p, len(row)-1) {
			return nil
		}
		out = append(out, row[p])
	}
	return out
}

// Key is a row's key by an index.
func Key(s api.Schema, index int, row ...api.Value) (string, api.Errno) {
	if !Right(s) || !between(0, index, len(s.Indexes)-1) {
		return "", api.ErrArg
	}
	if !fits(s, row) {
		return "", api.ErrType
	}
	return key(s, s.Indexes[index], row), api.OK
}

// Keys is a row's keys by all indexes.
func Keys(s api.Schema, row ...api.Value) ([]string, api.Errno) {
	if e := check(s, row); e != api.OK {
		return nil, e
	}
	var out []string
	for _, x := range s.Indexes {
		out = append(out, key(s, x, row))
	}
	return out, api.OK
}

// Part is a row's partition.
func Part(s api.Schema, row ...api.Value) (int, api.Errno) {
	if e := check(s, row); e != api.OK {
		return 0, e
	}
	return value.Spread(row[s.By], s.Parts), api.OK
}

// check is why there is neither a key nor a partition of a row.
func check(s api.Schema, row []api.Value) api.Errno {
	switch {
	case !Right(s):
		return api.ErrArg
	case !fits(s, row):
		return api.ErrType
	}
	return api.OK
}

// key is that of a row that fits: by an index that isn't unique rows with the
// same values are told from one another, and stand, by the first one.
func key(s api.Schema, x api.Index, row []api.Value) string {
	k := value.Key(Pick(row, x.Cols...)...)
	if !x.Unique {
		k += key(s, s.Indexes[0], row)
	}
	return k
}
