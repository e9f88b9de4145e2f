package table

import (
	"math/rand"
	"slices"
	"testing"

	"erasure/api"
	"erasure/catalogue"
)

// maker makes catalogues, changes and lists of changes.
type maker struct{ *rand.Rand }

func newMaker() maker { return maker{rand.New(rand.NewSource(1))} }

// chance is true once in so many times.
func (m maker) chance(times int) bool { return m.Intn(times) == 0 }

// catalogue makes a valid catalogue of up to four tables.
func (m maker) catalogue() api.Catalogue {
	for {
		var c api.Catalogue
		for i := range m.Intn(5) {
			c.Tables = append(c.Tables, m.table("t"+string(rune('a'+i)), c.Tables))
		}
		if catalogue.Valid(c) {
			return c
		}
	}
}

// table makes a table that may refer to earlier ones.
func (m maker) table(name string, earlier []api.Table) api.Table {
	table := api.Table{Name: name, Erase: m.Intn(2)}
	var owners []int // the columns that can tell owners
	for i := range 1 + m.Intn(5) {
		column := api.Column{Name: "c" + string(rune('a'+i)), Type: api.KindInt + m.Intn(2)}
		if m.chance(3) {
			column.Namespace = "person"
		} else if len(earlier) > 0 && m.chance(2) {
			target := earlier[m.Intn(len(earlier))]
			column.References, column.Type = target.Name, target.Columns[0].Type
		}
		if column.Namespace != "" || column.References != "" {
			owners = append(owners, i)
		}
		table.Columns = append(table.Columns, column)
	}
	for i := range table.Columns {
		if len(owners) > 0 && m.chance(4) {
			table.Columns[i].Owners = owners[:1+m.Intn(len(owners))]
		}
	}
	return table
}

// value makes a value of a kind, one of few.
func (m maker) value(kind int) api.Value {
	if kind == api.KindInt {
		return integer(int64(m.Intn(6)))
	}
	return text(string(rune('a' + m.Intn(6))))
}

// cell makes a value of a column, seldom one of another type or one that is not valid.
func (m maker) cell(column api.Column) api.Value {
	switch {
	case m.chance(4):
		return null
	case m.chance(60):
		return m.value(3 - column.Type)
	case m.chance(100):
		return brokenValues()[m.Intn(len(brokenValues()))]
	default:
		return m.value(column.Type)
	}
}

// keyOf makes a key of a table, seldom null or one of another type.
func (m maker) keyOf(table api.Table) api.Value {
	if m.chance(40) {
		return m.cell(table.Columns[0])
	}
	return m.value(table.Columns[0].Type)
}

// change makes a change that is often without an error.
func (m maker) change(c api.Catalogue, seq, day int) api.Change {
	if len(c.Tables) == 0 {
		return deletion(seq, day, 0, integer(1))
	}
	number := m.Intn(len(c.Tables))
	table := c.Tables[number]
	x := deletion(seq, day, number, m.keyOf(table))
	switch {
	case m.chance(2):
		values := row(m.keyOf(table))
		for _, column := range table.Columns[1:] {
			values = append(values, m.cell(column))
		}
		x = insertion(seq, day, number, values...)
	case m.chance(3):
	default:
		column := m.Intn(len(table.Columns))
		x = update(seq, day, number, m.keyOf(table), column, m.cell(table.Columns[column]))
	}
	if m.chance(40) {
		m.damage(&x)
	}
	return x
}

// number makes a number, often one next to a limit.
func (m maker) number() int {
	list := positions(minInt, -1, 0, 1, 2, 3, 4, 5, api.MaxDay, api.MaxDay+1, api.MaxSeq, api.MaxSeq+1, maxInt)
	return list[m.Intn(len(list))]
}

// damage changes a field.
func (m maker) damage(x *api.Change) {
	values := append(brokenValues(), null, integer(1), text("a"))
	v := values[m.Intn(len(values))]
	switch m.Intn(9) {
	case 0:
		x.Kind = m.number()
	case 1:
		x.Seq = m.number()
	case 2:
		x.Day = m.number()
	case 3:
		x.Table = m.number()
	case 4:
		x.Column = m.number()
	case 5:
		x.Key = v
	case 6:
		x.Value = v
	case 7:
		x.Row = append(slices.Clone(x.Row), v)
	default:
		x.Row = x.Row[:len(x.Row)/2]
	}
}

// list makes a list of changes, mostly in order, in which a change whose error the model finds is left out more or less often.
func (m maker) list(c api.Catalogue) []api.Change {
	var l []api.Change
	want := newModel(c)
	seq, day, keep := 1, 0, 1+m.Intn(40)
	for range m.Intn(60) {
		seq, day = seq+m.Intn(30)/10, day+m.Intn(12)/10
		if m.chance(100) {
			seq, day = max(seq-3, 0), max(day-m.Intn(2), 0)
		}
		x := m.change(c, seq, day)
		if first(slices.Concat(want.form(x), want.order(x))) != api.OK || first(want.effect(x)) != api.OK {
			if !m.chance(keep) {
				continue
			}
		}
		l = append(l, x)
		want.perform(x)
		seq++
	}
	return l
}

// P7.3, P7.4, and the consequences: replaying a history gives the tables that Apply gives, and valid tables stay valid.
func TestLawsOfLists(t *testing.T) {
	m := newMaker()
	errors, histories := map[api.Errno]int{}, 0
	for range 12000 {
		c := m.catalogue()
		l := m.list(c)
		if got, want := Ordered(c, l), wantOrdered(c, l); got != want {
			t.Fatalf("P7.3: Ordered(%v, %v) = %v", c, l, got)
		}
		replayed := Replay(c, l)
		if !same(replayed, wantReplay(c, l)) {
			t.Fatalf("P7.4: Replay(%v, %v) = %v", c, l, replayed)
		}
		at, errno := History(c, l)
		if wantAt, want := wantHistory(c, l); at != wantAt || errno != want {
			t.Fatalf("P7.3: History(%v, %v) = %d and %d, want %d and %d", c, l, at, errno, wantAt, want)
		}
		errors[errno]++
		if errno != api.OK {
			continue
		}
		if len(l) > 10 {
			histories++
		}
		applied := New(c)
		for _, x := range l {
			next, errno := Apply(c, applied, x)
			if errno != api.OK || !Valid(c, next) {
				t.Fatalf("P7.2: %v: Apply(%v, %v) gives %d and %v", c, applied, x, errno, next)
			}
			applied = next
		}
		if !same(applied, replayed) {
			t.Fatalf("Replay(%v, %v) = %v, and Apply gives %v", c, l, replayed, applied)
		}
		checkPositions(t, l, replayed)
	}
	for _, errno := range []api.Errno{api.OK, api.ErrInvalid, api.ErrKey, api.ErrType, api.ErrState, api.ErrOrder, api.ErrDuplicate, api.ErrNotFound, api.ErrReference} {
		if errors[errno] < 50 {
			t.Errorf("only %d lists give %d", errors[errno], errno)
		}
	}
	if histories < 500 {
		t.Errorf("only %d histories are long", histories)
	}
}

// checkPositions checks that every element of Seq of a record of a history is the position of the last change that wrote the cell.
func checkPositions(t *testing.T, l []api.Change, tables [][]api.Record) {
	t.Helper()
	for number, records := range tables {
		for _, r := range records {
			for column, v := range r.Row {
				last := api.Change{}
				for _, x := range l {
					if x.Table == number && key(x) == r.Row[0] && (x.Kind == api.ChangeInsert || x.Kind == api.ChangeUpdate && x.Column == column) {
						last = x
					}
				}
				written := last.Value
				if last.Kind == api.ChangeInsert {
					written = last.Row[column]
				}
				if last.Seq != r.Seq[column] || written != v {
					t.Fatalf("the cell %d of %v was written by %v", column, r, last)
				}
			}
		}
	}
}

// tables makes tables of a catalogue that need not come from a history, and sometimes are not valid.
func (m maker) tables(c api.Catalogue) [][]api.Record {
	t := wantReplay(c, m.list(c))
	for m.chance(3) && len(t) > 0 {
		records := t[m.Intn(len(t))]
		if len(records) == 0 {
			continue
		}
		m.damageRecord(&records[m.Intn(len(records))], records)
	}
	return t
}

// damageRecord changes a record of a list.
func (m maker) damageRecord(r *api.Record, records []api.Record) {
	i := m.Intn(max(1, min(len(r.Row), len(r.Seq))))
	other := records[m.Intn(len(records))]
	switch m.Intn(9) {
	case 0:
		r.Row = append(slices.Clone(r.Row), null)
	case 1:
		r.Seq = append(slices.Clone(r.Seq), api.MaxSeq)
	case 2:
		r.Row = r.Row[:len(r.Row)/2]
	case 3:
		r.Seq = r.Seq[:len(r.Seq)/2]
	case 4:
		r.Day = m.number()
	case 5:
		*r, records[0] = records[0], *r
	case 6:
		if len(r.Row) > i {
			r.Row[i] = append(brokenValues(), null, integer(9), text("z"))[m.Intn(len(brokenValues())+3)]
		}
	case 7:
		if len(r.Seq) > i {
			r.Seq[i] = m.number()
		}
	default:
		if len(r.Seq) > 0 && len(other.Seq) > 0 {
			r.Seq[0] = other.Seq[0]
		}
	}
}

// P7.1, P7.2
func TestLawsOfTables(t *testing.T) {
	m := newMaker()
	errors, invalid := map[api.Errno]int{}, 0
	for range 30000 {
		c := m.catalogue()
		tables := m.tables(c)
		isValid := wantValid(c, tables)
		if Valid(c, tables) != isValid {
			t.Fatalf("P7.1: Valid(%v, %v) = %v", c, tables, !isValid)
		}
		x := m.change(c, 1+m.Intn(150), m.Intn(10))
		got := Check(c, tables, x)
		next, errno := Apply(c, tables, x)
		if !isValid {
			if got != api.ErrInvalid || errno != api.ErrInvalid || len(next) != 0 {
				t.Fatalf("P7.2: %v, %v: Check gives %d, Apply %d and %v", c, tables, got, errno, next)
			}
			invalid++
			continue
		}
		want := modelOf(c, tables)
		wantErrno := first(slices.Concat(want.form(x), want.order(x), want.effect(x)))
		if got != wantErrno || errno != wantErrno {
			t.Fatalf("P7.2: %v, %v, %v: Check gives %d, Apply %d, want %d", c, tables, x, got, errno, wantErrno)
		}
		errors[wantErrno]++
		var after [][]api.Record
		if wantErrno == api.OK {
			want.perform(x)
			after = want.lists()
		}
		if !same(next, after) {
			t.Fatalf("P7.2: Apply(%v, %v, %v) = %v, want %v", c, tables, x, next, after)
		}
		checkFind(t, tables)
	}
	for _, errno := range []api.Errno{api.OK, api.ErrInvalid, api.ErrKey, api.ErrType, api.ErrState, api.ErrOrder, api.ErrDuplicate, api.ErrNotFound, api.ErrReference} {
		if errors[errno] < 50 {
			t.Errorf("only %d changes give %d", errors[errno], errno)
		}
	}
	if invalid < 1000 {
		t.Errorf("only %d tables are not valid", invalid)
	}
}

// checkFind checks Find and Bag for valid tables.
func checkFind(t *testing.T, tables [][]api.Record) {
	t.Helper()
	for _, records := range tables {
		var rows []api.Entry
		for i, r := range records {
			if got := Find(records, r.Row[0]); got != i {
				t.Fatalf("P7.1: Find(%v, %v) = %d", records, r.Row[0], got)
			}
			rows = append(rows, api.Entry{Row: r.Row, Count: 1})
		}
		if got := Bag(records); !sameBag(got, rows) {
			t.Fatalf("P7.5: Bag(%v) = %v", records, got)
		}
		for _, v := range []api.Value{integer(77), text("zz")} {
			if got := Find(records, v); got != -1 {
				t.Fatalf("P7.1: Find(%v, %v) = %d", records, v, got)
			}
		}
	}
}
