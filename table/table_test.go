package table

import (
	"slices"
	"strings"
	"testing"

	"erasure/api"
)

// P7.1
func TestNew(t *testing.T) {
	got := New(shop())
	if !same(got, make([][]api.Record, 3)) || !Valid(shop(), got) {
		t.Errorf("P7.1: New = %v", got)
	}
	if got := New(api.Catalogue{}); len(got) != 0 {
		t.Errorf("P7.1: New without tables = %v", got)
	}
	for _, c := range brokenCatalogues() {
		if got := New(c); len(got) != 0 {
			t.Errorf("P7.1: New of a catalogue that is not valid = %v", got)
		}
	}
	first, second := New(shop()), New(shop())
	first[0] = manyRecords(2)
	if !same(second, make([][]api.Record, 3)) {
		t.Errorf("rule 3: two results of New share memory")
	}
}

// manyRecords returns so many valid records of persons.
func manyRecords(count int) []api.Record {
	var records []api.Record
	for i := range count {
		records = append(records, record(0, positions(count+1-i, count+1), integer(int64(i)), null))
	}
	return records
}

// P7.1
func TestValid(t *testing.T) {
	extremes := [][]api.Record{
		{
			record(api.MaxDay, positions(api.MaxSeq, api.MaxSeq), integer(-api.MaxNumber), text(strings.Repeat("\xff", api.MaxText))),
			record(0, positions(1, api.MaxSeq), integer(0), text("")),
			record(0, positions(2, 2), integer(api.MaxNumber), null),
		},
		{record(0, positions(1, 1), text(""), null), record(0, positions(2, 1<<20), text("\x00"), integer(0))},
		nil,
	}
	for _, tables := range [][][]api.Record{
		{nil, nil, nil}, {{}, {}, {}}, shopTables(), extremes, {manyRecords(api.MaxRecords), nil, nil},
	} {
		if !Valid(shop(), tables) {
			t.Errorf("P7.1: %v are valid", tables)
		}
		for _, c := range brokenCatalogues() {
			if Valid(c, tables) {
				t.Errorf("P7.1: tables are valid for a catalogue that is not")
			}
		}
	}
	if !Valid(api.Catalogue{}, nil) || Valid(api.Catalogue{}, make([][]api.Record, 1)) {
		t.Errorf("P7.1: Valid without tables")
	}
}

// breaks returns functions each of which changes shopTables so that they are not valid.
func breaks() map[string]func(t [][]api.Record) [][]api.Record {
	inside := func(f func(t [][]api.Record)) func(t [][]api.Record) [][]api.Record {
		return func(t [][]api.Record) [][]api.Record { f(t); return t }
	}
	set := func(table, index int, f func(r *api.Record)) func(t [][]api.Record) [][]api.Record {
		return inside(func(t [][]api.Record) { f(&t[table][index]) })
	}
	all := map[string]func(t [][]api.Record) [][]api.Record{
		"no table":         func(t [][]api.Record) [][]api.Record { return nil },
		"too few tables":   func(t [][]api.Record) [][]api.Record { return t[:2] },
		"too many tables":  func(t [][]api.Record) [][]api.Record { return append(t, nil) },
		"another order":    func(t [][]api.Record) [][]api.Record { return [][]api.Record{t[1], t[0], t[2]} },
		"too many records": inside(func(t [][]api.Record) { t[0] = manyRecords(api.MaxRecords + 1) }),
		"records swapped":  inside(func(t [][]api.Record) { t[0][0], t[0][1] = t[0][1], t[0][0] }),
		"same key":         set(person, 1, func(r *api.Record) { r.Row[0] = integer(7) }),
		"same source":      set(person, 2, func(r *api.Record) { r.Seq = positions(4, 30) }),
		"no row":           set(person, 2, func(r *api.Record) { r.Row = nil }),
		"short row":        set(person, 2, func(r *api.Record) { r.Row = r.Row[:1] }),
		"long row":         set(person, 2, func(r *api.Record) { r.Row = append(r.Row, null) }),
		"no positions":     set(person, 2, func(r *api.Record) { r.Seq = nil }),
		"few positions":    set(person, 2, func(r *api.Record) { r.Seq = r.Seq[:1] }),
		"many positions":   set(person, 2, func(r *api.Record) { r.Seq = append(r.Seq, 30) }),
		"empty record":     set(city, 0, func(r *api.Record) { *r = api.Record{} }),
		"null key":         set(city, 0, func(r *api.Record) { r.Row[0] = null }),
		"key of a type":    set(city, 0, func(r *api.Record) { r.Row[0] = integer(1) }),
		"type":             set(city, 0, func(r *api.Record) { r.Row[1] = text("1") }),
		"type at the end":  set(order, 0, func(r *api.Record) { r.Row[5] = text("1") }),
		"position 0":       set(city, 0, func(r *api.Record) { r.Seq = positions(0, 6) }),
		"cell before":      set(order, 0, func(r *api.Record) { r.Seq[3] = 6 }),
		"last cell before": set(order, 0, func(r *api.Record) { r.Seq[5] = 1 }),
		"position beyond":  set(order, 0, func(r *api.Record) { r.Seq[3] = api.MaxSeq + 1 }),
		"far position":     set(order, 0, func(r *api.Record) { r.Seq[5] = maxInt }),
		"negative":         set(order, 0, func(r *api.Record) { r.Seq[0] = minInt }),
		"day before":       set(order, 0, func(r *api.Record) { r.Day = -1 }),
		"day beyond":       set(order, 0, func(r *api.Record) { r.Day = api.MaxDay + 1 }),
		"far day":          set(order, 0, func(r *api.Record) { r.Day = minInt }),
	}
	for i, v := range brokenValues() {
		all["broken value "+string(rune('a'+i))] = set(order, 0, func(r *api.Record) { r.Row[4] = v })
		all["broken key "+string(rune('a'+i))] = set(order, 0, func(r *api.Record) { r.Row[0] = v })
	}
	return all
}

// P7.1, P7.2: Check and Apply say no more about tables that are not valid.
func TestNotValid(t *testing.T) {
	for name, f := range breaks() {
		tables := f(shopTables())
		if Valid(shop(), tables) {
			t.Errorf("P7.1: %s: %v are valid", name, tables)
		}
		for _, x := range []api.Change{insertion(100, 9, city, text("c"), null), {}} {
			next, errno := Apply(shop(), tables, x)
			if got := Check(shop(), tables, x); got != api.ErrInvalid || errno != api.ErrInvalid || len(next) != 0 {
				t.Errorf("P7.2: %s: Check %d, Apply %d with %v", name, got, errno, next)
			}
		}
	}
	for _, c := range brokenCatalogues() {
		x := insertion(100, 9, city, text("c"), null)
		next, errno := Apply(c, shopTables(), x)
		if got := Check(c, shopTables(), x); got != api.ErrInvalid || errno != api.ErrInvalid || len(next) != 0 {
			t.Errorf("P7.2: a catalogue that is not valid: Check %d, Apply %d with %v", got, errno, next)
		}
	}
}

// P7.1: sources are different in one table, but may be equal in two.
func TestSameSourceInTwoTables(t *testing.T) {
	tables := shopTables()
	tables[city][0].Seq = positions(4, 25)
	tables[order][0].Seq = slices.Repeat(positions(23), 6)
	if !Valid(shop(), tables) {
		t.Errorf("P7.1: %v are valid", tables)
	}
}

// P7.1
func TestFind(t *testing.T) {
	records := []api.Record{
		{}, {Row: row(null)}, {Row: row(integer(5), text("a"))}, {Row: row(text("5"))}, {Row: row()}, {Row: row(integer(5))}, {Row: row(integer(-1), integer(9))},
		{Row: row(text(""))}, {Row: row(text("a"), integer(5))}, {Row: row(integer(api.MaxNumber))}, {Row: row(text(strings.Repeat("a", api.MaxText)))},
	}
	for _, x := range []struct {
		key  api.Value
		want int
	}{
		{integer(5), 2}, {text("5"), 3}, {integer(-1), 6}, {text(""), 7}, {text("a"), 8}, {integer(api.MaxNumber), 9}, {text(strings.Repeat("a", api.MaxText)), 10},
		{integer(9), -1}, {integer(0), -1}, {text("b"), -1}, {null, -1},
	} {
		if got := Find(records, x.key); got != x.want {
			t.Errorf("P7.1: Find %v is %d, want %d", x.key, got, x.want)
		}
	}
	if got := Find(nil, integer(5)); got != -1 {
		t.Errorf("P7.1: Find without records is %d", got)
	}
	for i, r := range manyRecords(api.MaxRecords) {
		if got := Find(manyRecords(api.MaxRecords), r.Row[0]); got != i {
			t.Errorf("P7.1: Find %v is %d, want %d", r.Row[0], got, i)
		}
	}
	if at := Find(manyRecords(1000), integer(900)); at != 900 {
		t.Errorf("P7.1: Find in a list that is too long is %d", at)
	}
}

// P7.1: a key that is not valid is not found, even if a record has it.
func TestFindBroken(t *testing.T) {
	for _, v := range brokenValues() {
		records := []api.Record{{Row: row(v)}, {Row: row(null)}, {Row: row(integer(1))}}
		if got := Find(records, v); got != -1 {
			t.Errorf("P7.1: Find %v is %d", v, got)
		}
		if got := Find(records, integer(1)); got != 2 {
			t.Errorf("P7.1: Find behind %v is %d", v, got)
		}
	}
	if got := Find([]api.Record{{Row: row(null)}}, null); got != -1 {
		t.Errorf("P7.1: Find null is %d", got)
	}
}

// P7.5
func TestBag(t *testing.T) {
	for _, x := range []struct {
		records []api.Record
		want    []api.Entry
	}{
		{nil, nil},
		{shopTables()[person], []api.Entry{{Row: row(integer(-2), null), Count: 1}, {Row: row(integer(1), text("i")), Count: 1}, {Row: row(integer(7), text("h")), Count: 1}}},
		{[]api.Record{{Row: row(text("a"))}, {}, {Row: row(integer(9)), Seq: positions(-1), Day: -1}, {Row: row(text("a"))}}, []api.Entry{{Count: 1}, {Row: row(integer(9)), Count: 1}, {Row: row(text("a")), Count: 2}}},
		{[]api.Record{{Row: slices.Repeat(row(null), 16)}}, []api.Entry{{Row: slices.Repeat(row(null), 16), Count: 1}}},
		{[]api.Record{{Row: row(null)}, {Row: slices.Repeat(row(null), 17)}}, nil}, // ErrInvalid
		{make([]api.Record, api.MaxCount), []api.Entry{{Count: api.MaxCount}}},
		{make([]api.Record, api.MaxCount+1), nil}, // ErrOverflow
		{manyRecords(api.MaxRows + 1), nil},       // ErrFull
		{manyRecords(1), []api.Entry{{Row: row(integer(0), null), Count: 1}}},
	} {
		if got := Bag(x.records); !sameBag(got, x.want) {
			t.Errorf("P7.5: Bag of %d records is %v, want %v", len(x.records), got, x.want)
		}
	}
	if got := Bag(manyRecords(api.MaxRows)); len(got) != api.MaxRows {
		t.Errorf("P7.5: Bag of %d rows has %d", api.MaxRows, len(got))
	}
	for _, v := range brokenValues() {
		if got := Bag([]api.Record{{Row: row(integer(1))}, {Row: row(integer(1), v)}}); len(got) != 0 {
			t.Errorf("P7.5: Bag with %v is %v", v, got)
		}
	}
}

func sameBag(a, b []api.Entry) bool {
	return slices.EqualFunc(a, b, func(x, y api.Entry) bool { return x.Count == y.Count && slices.Equal(x.Row, y.Row) })
}

// Rule 3
func TestBagIsNew(t *testing.T) {
	tables := roomy(shopTables())
	for i := range tables {
		for _, e := range Bag(tables[i]) {
			for k := range e.Row[:cap(e.Row)] {
				e.Row[:cap(e.Row)][k] = text("other")
			}
		}
	}
	checkLeft(t, "Bag", tables, shopTables())
}
