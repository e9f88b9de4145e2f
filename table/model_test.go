package table

import (
	"slices"

	"erasure/api"
	"erasure/value"
)

// This file transcribes the chapter for comparison: errors are lists of conditions in the chapter's order, and a table is a map from keys to records.

// model are the tables of a catalogue.
type model struct {
	c      api.Catalogue
	tables []map[api.Value]api.Record
}

func newModel(c api.Catalogue) model {
	m := model{c: c}
	for range c.Tables {
		m.tables = append(m.tables, map[api.Value]api.Record{})
	}
	return m
}

// modelOf returns the model of tables.
func modelOf(c api.Catalogue, t [][]api.Record) model {
	m := newModel(c)
	for i, records := range t {
		for _, r := range records {
			m.tables[i][r.Row[0]] = r
		}
	}
	return m
}

// lists returns the tables as lists.
func (m model) lists() [][]api.Record {
	t := make([][]api.Record, len(m.tables))
	for i, table := range m.tables {
		for _, r := range table {
			t[i] = append(t[i], r)
		}
		slices.SortFunc(t[i], func(a, b api.Record) int { return value.Compare(a.Row[0], b.Row[0]) })
	}
	return t
}

// condition is an error with the question whether it applies.
type condition struct {
	errno   api.Errno
	applies func() bool
}

func first(list []condition) api.Errno {
	for _, x := range list {
		if x.applies() {
			return x.errno
		}
	}
	return api.OK
}

func outside(n, low, high int) bool { return n < low || n > high }

// isUnusedZero reports whether the fields that a kind of change does not use are zero.
func isUnusedZero(x api.Change) bool {
	switch x.Kind {
	case api.ChangeInsert:
		x.Row = nil
	case api.ChangeUpdate:
		x.Key, x.Column, x.Value = null, 0, null
	case api.ChangeDelete:
		x.Key = null
	}
	return len(x.Row) == 0 && x.Key == null && x.Column == 0 && x.Value == null
}

// key returns the key of the record that x concerns.
func key(x api.Change) api.Value {
	if x.Kind == api.ChangeInsert {
		return x.Row[0]
	}
	return x.Key
}

// isWrong reports whether v may not stand in the column.
func isWrong(v api.Value, column api.Column) bool {
	return v != null && v.Kind != column.Type
}

// form is the part of the list of errors that does not depend on tables.
func (m model) form(x api.Change) []condition {
	columns := func() []api.Column { return m.c.Tables[x.Table].Columns }
	return []condition{
		{api.ErrInvalid, func() bool { return outside(x.Kind, 1, 3) }},
		{api.ErrInvalid, func() bool { return outside(x.Seq, 1, 1<<30) }},
		{api.ErrInvalid, func() bool { return outside(x.Day, 0, 1<<20) }},
		{api.ErrInvalid, func() bool { return outside(x.Table, 0, len(m.c.Tables)-1) }},
		{api.ErrInvalid, func() bool { return !isUnusedZero(x) }},
		{api.ErrInvalid, func() bool {
			if x.Kind == api.ChangeInsert {
				return len(x.Row) != len(columns()) || slices.ContainsFunc(x.Row, func(v api.Value) bool { return !value.Valid(v) })
			}
			return !value.Valid(x.Key)
		}},
		{api.ErrInvalid, func() bool {
			return x.Kind == api.ChangeUpdate && (outside(x.Column, 0, len(columns())-1) || !value.Valid(x.Value))
		}},
		{api.ErrKey, func() bool { return key(x) == null }},
		{api.ErrType, func() bool {
			for i, v := range x.Row {
				if isWrong(v, columns()[i]) {
					return true
				}
			}
			return x.Kind == api.ChangeUpdate && isWrong(x.Value, columns()[x.Column]) || x.Kind != api.ChangeInsert && isWrong(x.Key, columns()[0])
		}},
		{api.ErrState, func() bool {
			isOwner := func(column api.Column) bool { return slices.Contains(column.Owners, x.Column) }
			return x.Kind == api.ChangeUpdate && (x.Column == 0 || slices.ContainsFunc(columns(), isOwner))
		}},
	}
}

// order is the error of a change behind a position.
func (m model) order(x api.Change) []condition {
	return []condition{{api.ErrOrder, func() bool {
		for _, table := range m.tables {
			for _, r := range table {
				for _, seq := range r.Seq {
					if x.Seq <= seq {
						return true
					}
				}
			}
		}
		return false
	}}}
}

// effect is the part of the list of errors behind ErrOrder.
func (m model) effect(x api.Change) []condition {
	isThere := func() bool { _, there := m.tables[x.Table][key(x)]; return there }
	isLost := func(v api.Value, column api.Column) bool {
		for i, table := range m.c.Tables {
			if table.Name == column.References && v != null {
				_, there := m.tables[i][v]
				return !there
			}
		}
		return false
	}
	return []condition{
		{api.ErrDuplicate, func() bool { return x.Kind == api.ChangeInsert && isThere() }},
		{api.ErrNotFound, func() bool { return x.Kind != api.ChangeInsert && !isThere() }},
		{api.ErrReference, func() bool {
			columns := m.c.Tables[x.Table].Columns
			for i, v := range x.Row {
				if isLost(v, columns[i]) {
					return true
				}
			}
			return x.Kind == api.ChangeUpdate && isLost(x.Value, columns[x.Column])
		}},
		{api.ErrFull, func() bool { return x.Kind == api.ChangeInsert && len(m.tables[x.Table]) >= 64 }},
	}
}

// perform changes the tables as Replay does.
func (m model) perform(x api.Change) {
	if first(m.form(x)) != api.OK {
		return
	}
	table := m.tables[x.Table]
	r, isThere := table[key(x)]
	if x.Kind == api.ChangeInsert && (isThere || len(table) < 64) {
		table[key(x)] = api.Record{Row: append([]api.Value(nil), x.Row...), Seq: slices.Repeat(positions(x.Seq), len(x.Row)), Day: x.Day}
	}
	if x.Kind == api.ChangeUpdate && isThere {
		values, seq := append([]api.Value(nil), r.Row...), append([]int(nil), r.Seq...)
		values[x.Column], seq[x.Column] = x.Value, x.Seq
		table[key(x)] = record(r.Day, seq, values...)
	}
	if x.Kind == api.ChangeDelete {
		delete(table, key(x))
	}
}

// wantReplay are the tables after all changes of l.
func wantReplay(c api.Catalogue, l []api.Change) [][]api.Record {
	m := newModel(c)
	for _, x := range l {
		m.perform(x)
	}
	return m.lists()
}

// wantHistory is the result of History, and wantOrdered that of Ordered, for a valid catalogue.
func wantHistory(c api.Catalogue, l []api.Change) (int, api.Errno) {
	if len(l) > 1024 {
		return 0, api.ErrFull
	}
	m := newModel(c)
	for i, x := range l {
		list := slices.Concat(m.form(x), orderIn(l, i), m.effect(x))
		if errno := first(list); errno != api.OK {
			return i, errno
		}
		m.perform(x)
	}
	return 0, api.OK
}

// orderIn is the error of the order of the change i of a list.
func orderIn(l []api.Change, i int) []condition {
	return []condition{{api.ErrOrder, func() bool { return i > 0 && (l[i].Seq <= l[i-1].Seq || l[i].Day < l[i-1].Day) }}}
}

func wantOrdered(c api.Catalogue, l []api.Change) bool {
	for i, x := range l {
		if first(newModel(c).form(x)) != api.OK || first(orderIn(l, i)) != api.OK {
			return false
		}
	}
	return len(l) <= 1024
}

// wantValid is the result of Valid for a valid catalogue.
func wantValid(c api.Catalogue, t [][]api.Record) bool {
	if len(t) != len(c.Tables) {
		return false
	}
	for i, table := range c.Tables {
		if len(t[i]) > 64 {
			return false
		}
		for k, r := range t[i] {
			if !wantValidRecord(table, r) {
				return false
			}
			for _, later := range t[i][k+1:] {
				if len(later.Row) == 0 || len(later.Seq) == 0 || value.Compare(r.Row[0], later.Row[0]) >= 0 || r.Seq[0] == later.Seq[0] {
					return false
				}
			}
		}
	}
	return true
}

func wantValidRecord(table api.Table, r api.Record) bool {
	if len(r.Row) != len(table.Columns) || len(r.Seq) != len(table.Columns) || outside(r.Day, 0, 1<<20) || r.Row[0] == null {
		return false
	}
	for i, v := range r.Row {
		if !value.Valid(v) || isWrong(v, table.Columns[i]) || outside(r.Seq[i], 1, 1<<30) || r.Seq[i] < r.Seq[0] {
			return false
		}
	}
	return true
}
