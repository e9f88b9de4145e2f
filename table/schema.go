package table

import (
	"slices"

	"erasure/api"
	"erasure/catalogue"
	"erasure/value"
)

// schema is what changes have to follow, for each table of a valid catalogue. It is made once for a list of changes, since catalogue.Fixed checks the whole catalogue each time.
type schema []rules

// rules are the rules for the changes of one table.
type rules struct {
	columns []api.Column
	fixed   []int
	targets []int // for each column the table whose keys it contains, or -1
}

// schemaOf returns the schema of c, and whether c is valid.
func schemaOf(c api.Catalogue) (schema, bool) {
	if !catalogue.Valid(c) {
		return nil, false
	}
	var s schema
	for i, table := range c.Tables {
		r := rules{columns: table.Columns, fixed: catalogue.Fixed(c, i)}
		for _, column := range table.Columns {
			// No table of a valid catalogue has an empty name, so that columns without a reference get -1.
			isTarget := func(t api.Table) bool { return t.Name == column.References }
			r.targets = append(r.targets, slices.IndexFunc(c.Tables, isTarget))
		}
		s = append(s, r)
	}
	return s, true
}

// formError returns the first error of x that does not depend on tables.
func (s schema) formError(x api.Change) api.Errno {
	if !s.isComplete(x) {
		return api.ErrInvalid
	}
	r, key := s[x.Table], keyOf(x)
	first, values := written(x)
	switch {
	case key.Kind == api.KindNull:
		return api.ErrKey
	case key.Kind != r.columns[0].Type, !areTyped(r.columns[first:], values):
		return api.ErrType
	case x.Kind == api.ChangeUpdate && slices.Contains(r.fixed, x.Column):
		return api.ErrState
	default:
		return api.OK
	}
}

// isComplete reports whether the fields of x are in their ranges, and those that its kind does not use are zero.
func (s schema) isComplete(x api.Change) bool {
	if !isWithin(x.Seq, 1, api.MaxSeq) || !isWithin(x.Day, 0, api.MaxDay) || !isWithin(x.Table, 0, len(s)-1) {
		return false
	}
	columns := len(s[x.Table].columns)
	switch x.Kind {
	case api.ChangeInsert:
		return len(x.Row) == columns && value.ValidRow(x.Row) && isZero(x.Key) && x.Column == 0 && isZero(x.Value)
	case api.ChangeUpdate:
		return len(x.Row) == 0 && value.Valid(x.Key) && isWithin(x.Column, 0, columns-1) && value.Valid(x.Value)
	case api.ChangeDelete:
		return len(x.Row) == 0 && value.Valid(x.Key) && x.Column == 0 && isZero(x.Value)
	default:
		return false
	}
}

func isZero(v api.Value) bool {
	return v == api.Value{}
}

// keyOf returns the key of the record that x concerns.
func keyOf(x api.Change) api.Value {
	if x.Kind == api.ChangeInsert {
		return x.Row[0]
	}
	return x.Key
}

// written returns the values that x writes into neighbouring columns, and the first of these columns; a well-formed deletion writes none.
func written(x api.Change) (int, []api.Value) {
	if x.Kind == api.ChangeUpdate {
		return x.Column, []api.Value{x.Value}
	}
	return 0, x.Row
}

// effectError returns the first error of a well-formed change at tables, its position apart.
func (s schema) effectError(t [][]api.Record, x api.Change) api.Errno {
	records := t[x.Table]
	isInsertion, isThere := x.Kind == api.ChangeInsert, Find(records, keyOf(x)) >= 0
	switch {
	case isInsertion && isThere:
		return api.ErrDuplicate
	case !isInsertion && !isThere:
		return api.ErrNotFound
	case !s[x.Table].areReferencesKept(t, x):
		return api.ErrReference
	case isInsertion && len(records) == api.MaxRecords:
		return api.ErrFull
	default:
		return api.OK
	}
}

// areReferencesKept reports whether what x writes into columns with a reference are keys of records there, or nulls.
func (r rules) areReferencesKept(t [][]api.Record, x api.Change) bool {
	first, values := written(x)
	for i, v := range values {
		target := r.targets[first+i]
		if target >= 0 && v.Kind != api.KindNull && Find(t[target], v) < 0 {
			return false
		}
	}
	return true
}
