package table

import (
	"slices"
	"strings"
	"testing"

	"erasure/api"
)

const (
	minInt   = -1 << 63
	maxInt   = 1<<63 - 1
	tooLarge = api.MaxNumber + 1
)

var null = api.Value{}

func integer(n int64) api.Value { return api.Value{Kind: api.KindInt, Int: n} }
func text(s string) api.Value   { return api.Value{Kind: api.KindText, Text: s} }

// row, positions and record are short for their literals.
func row(values ...api.Value) []api.Value { return values }
func positions(list ...int) []int         { return list }
func record(day int, seq []int, values ...api.Value) api.Record {
	return api.Record{Row: values, Seq: seq, Day: day}
}

func insertion(seq, day, table int, values ...api.Value) api.Change {
	return api.Change{Kind: api.ChangeInsert, Seq: seq, Day: day, Table: table, Row: values}
}

func update(seq, day, table int, key api.Value, column int, v api.Value) api.Change {
	return api.Change{Kind: api.ChangeUpdate, Seq: seq, Day: day, Table: table, Key: key, Column: column, Value: v}
}

func deletion(seq, day, table int, key api.Value) api.Change {
	return api.Change{Kind: api.ChangeDelete, Seq: seq, Day: day, Table: table, Key: key}
}

// The tables of shop.
const (
	person = 0 // id, mail
	city   = 1 // code, rank
	order  = 2 // id, who (a person), place (a city), note (owned by who), again (a person), amount
)

// shop is a valid catalogue. Of order, the columns id and who cannot be updated.
func shop() api.Catalogue {
	return api.Catalogue{Tables: []api.Table{
		{Name: "person", Columns: []api.Column{
			{Name: "id", Type: api.KindInt, Namespace: "person"},
			{Name: "mail", Type: api.KindText, Owners: []int{0}},
		}},
		{Name: "city", Columns: []api.Column{
			{Name: "code", Type: api.KindText},
			{Name: "rank", Type: api.KindInt},
		}},
		{Name: "order", Columns: []api.Column{
			{Name: "id", Type: api.KindText},
			{Name: "who", Type: api.KindInt, References: "person"},
			{Name: "place", Type: api.KindText, References: "city"},
			{Name: "note", Type: api.KindText, Owners: []int{1}},
			{Name: "again", Type: api.KindInt, References: "person"},
			{Name: "amount", Type: api.KindInt},
		}},
	}}
}

// shopHistory is a history of shop, and shopTables are the tables after it.
func shopHistory() []api.Change {
	return []api.Change{
		insertion(3, 1, person, integer(7), text("g")),
		insertion(4, 1, person, integer(-2), null),
		insertion(6, 1, city, text("b"), null),
		insertion(7, 2, order, text("x"), integer(7), null, text("hi"), integer(-2), integer(5)),
		update(8, 2, person, integer(7), 1, null),
		update(10, 2, order, text("x"), 2, text("b")),
		insertion(11, 5, city, text("a"), integer(1)),
		update(20, 5, order, text("x"), 4, null),
		deletion(21, 5, person, integer(7)),
		deletion(22, 5, city, text("a")),
		insertion(23, 6, person, integer(7), text("h")),
		insertion(24, 6, person, integer(1), text("")),
		update(25, 6, person, integer(1), 1, text("i")),
	}
}

func shopTables() [][]api.Record {
	return [][]api.Record{
		{
			record(1, positions(4, 4), integer(-2), null),
			record(6, positions(24, 25), integer(1), text("i")),
			record(6, positions(23, 23), integer(7), text("h")),
		},
		{record(1, positions(6, 6), text("b"), null)},
		{record(2, positions(7, 7, 10, 7, 20, 7), text("x"), integer(7), text("b"), text("hi"), null, integer(5))},
	}
}

// manyInsertions returns the changes that insert so many persons from the given position on, all on one day.
func manyInsertions(count, seq, day int) []api.Change {
	var l []api.Change
	for i := range count {
		l = append(l, insertion(seq+i, day, person, integer(int64(10*i)), null))
	}
	return l
}

// brokenCatalogues returns catalogues that are not valid, although their tables are those of shop.
func brokenCatalogues() []api.Catalogue {
	stream, view := shop(), shop()
	stream.Streams = []api.Stream{{Name: "log", Table: "nobody"}}
	view.Views = []api.View{{Name: "person"}}
	name := shop()
	name.Tables[2].Columns[5].Name = ""
	return []api.Catalogue{stream, view, name}
}

// brokenValues returns values that are not valid.
func brokenValues() []api.Value {
	return []api.Value{
		{Int: 1}, {Text: "a"}, {Kind: 3}, {Kind: -1}, integer(tooLarge), integer(-tooLarge), integer(minInt), integer(maxInt),
		{Kind: api.KindInt, Text: "a"}, {Kind: api.KindText, Int: 1}, text(strings.Repeat("a", api.MaxText+1)),
	}
}

func sameRecord(a, b api.Record) bool {
	return slices.Equal(a.Row, b.Row) && slices.Equal(a.Seq, b.Seq) && a.Day == b.Day
}

// same compares tables, where nil and empty lists are equivalent.
func same(a, b [][]api.Record) bool {
	return slices.EqualFunc(a, b, func(x, y []api.Record) bool { return slices.EqualFunc(x, y, sameRecord) })
}

// copied returns a copy of tables, of which nothing else keeps a part.
func copied(t [][]api.Record) [][]api.Record {
	c := make([][]api.Record, len(t))
	for i, records := range t {
		for _, r := range records {
			c[i] = append(c[i], record(r.Day, append([]int(nil), r.Seq...), append([]api.Value(nil), r.Row...)...))
		}
	}
	return c
}

// mark stands in the memory behind the slices of arguments.
var mark = text("mark")

// roomyRow returns a copy of a row with room behind its values, in which mark stands.
func roomyRow(values []api.Value) []api.Value {
	return append(append([]api.Value(nil), values...), mark, mark)[:len(values)]
}

// roomy returns a copy of tables with room behind all their slices, in which marks stand.
func roomy(t [][]api.Record) [][]api.Record {
	c := make([][]api.Record, len(t))
	for i, records := range t {
		for _, r := range records {
			seq := append(append([]int(nil), r.Seq...), -7, -7)[:len(r.Seq)]
			c[i] = append(c[i], record(r.Day, seq, roomyRow(r.Row)...))
		}
		c[i] = append(c[i], record(-7, nil, mark), record(-7, nil, mark))[:len(records)]
	}
	return c
}

// checkLeft checks that roomy tables and the memory behind them are still those of want.
func checkLeft(t *testing.T, what string, got, want [][]api.Record) {
	t.Helper()
	if !same(got, want) {
		t.Errorf("%s: an argument has changed: %v, before %v", what, got, want)
	}
	for _, records := range got {
		for _, r := range records {
			if !slices.Equal(r.Row[len(r.Row):len(r.Row)+2], row(mark, mark)) || !slices.Equal(r.Seq[len(r.Seq):len(r.Seq)+2], positions(-7, -7)) {
				t.Errorf("%s: the memory behind the record %v has changed", what, r)
			}
		}
		for _, r := range records[len(records) : len(records)+2] {
			if !sameRecord(r, record(-7, nil, mark)) {
				t.Errorf("%s: the memory behind the records %v has changed", what, records)
			}
		}
	}
}

// overwrite writes to all memory of a list of records.
func overwrite(records []api.Record) {
	for _, r := range records {
		overwriteRecord(r)
	}
	full := records[:cap(records)]
	for i := range full {
		full[i] = record(-1, nil, text("other"))
	}
}

// overwriteRecord writes to all memory of a record.
func overwriteRecord(r api.Record) {
	values, seq := r.Row[:cap(r.Row)], r.Seq[:cap(r.Seq)]
	for i := range values {
		values[i] = text("other")
	}
	for i := range seq {
		seq[i] = -1
	}
}

// checkOwn checks that no two slices of tables share memory.
func checkOwn(t *testing.T, what string, tables [][]api.Record) {
	t.Helper()
	for i := range tables {
		for k := range tables[i] {
			was := copied(tables)
			overwriteRecord(tables[i][k])
			was[i][k] = tables[i][k]
			if !same(tables, was) {
				t.Errorf("%s: writing to record %d of table %d changes another one", what, k, i)
			}
		}
		was := copied(tables)
		overwrite(tables[i])
		was[i] = tables[i]
		if !same(tables, was) {
			t.Errorf("%s: writing to table %d changes another one", what, i)
		}
	}
}
