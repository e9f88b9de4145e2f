package table

import (
	"slices"
	"strings"
	"testing"

	"erasure/api"
)

// checkErrno checks the error of a change at tables.
func checkErrno(t *testing.T, what string, tables [][]api.Record, x api.Change, want api.Errno) {
	t.Helper()
	next, errno := Apply(shop(), tables, x)
	if got := Check(shop(), tables, x); got != want || errno != want {
		t.Errorf("P7.2: %s: %v: Check %d, Apply %d, want %d", what, x, got, errno, want)
	}
	if errno == api.OK && !Valid(shop(), next) || errno != api.OK && len(next) != 0 {
		t.Errorf("P7.2: %s: %v: the error %d, with the tables %v", what, x, errno, next)
	}
}

// validChanges returns a change of each kind without an error at shopTables.
func validChanges() []api.Change {
	return []api.Change{
		insertion(30, 9, order, text("y"), integer(7), text("b"), null, integer(1), integer(0)),
		update(30, 9, order, text("x"), 4, integer(7)),
		deletion(30, 9, order, text("x")),
	}
}

// P7.2: ErrInvalid for the fields that all kinds use.
func TestInvalidFields(t *testing.T) {
	for _, x := range validChanges() {
		checkErrno(t, "valid", shopTables(), x, api.OK)
		set := func(what string, want api.Errno, f func(x *api.Change)) {
			t.Helper()
			changed := x
			f(&changed)
			checkErrno(t, what, shopTables(), changed, want)
		}
		for _, n := range []int{api.MaxSeq, 26} {
			set("position", api.OK, func(x *api.Change) { x.Seq = n })
		}
		for _, n := range []int{0, -1, api.MaxSeq + 1, minInt, maxInt} {
			set("position", api.ErrInvalid, func(x *api.Change) { x.Seq = n })
		}
		for _, n := range []int{0, api.MaxDay} {
			set("day", api.OK, func(x *api.Change) { x.Day = n })
		}
		for _, n := range []int{-1, api.MaxDay + 1, minInt, maxInt} {
			set("day", api.ErrInvalid, func(x *api.Change) { x.Day = n })
		}
		for _, n := range []int{-1, 3, minInt, maxInt} {
			set("table", api.ErrInvalid, func(x *api.Change) { x.Table = n })
		}
		for _, n := range []int{0, -1, 4, minInt, maxInt} {
			set("kind", api.ErrInvalid, func(x *api.Change) { x.Kind = n })
		}
	}
	checkErrno(t, "nothing", shopTables(), api.Change{}, api.ErrInvalid)
}

// P7.2: ErrInvalid for fields that a kind does not use, even if they would be valid for another kind.
func TestUnusedFields(t *testing.T) {
	insert, change, remove := validChanges()[0], validChanges()[1], validChanges()[2]
	check := func(what string, x api.Change, f func(x *api.Change)) {
		t.Helper()
		f(&x)
		checkErrno(t, what, shopTables(), x, api.ErrInvalid)
	}
	for _, v := range append(brokenValues(), integer(0), text(""), text("y")) {
		check("insertion with a key", insert, func(x *api.Change) { x.Key = v })
		check("insertion with a value", insert, func(x *api.Change) { x.Value = v })
		check("deletion with a value", remove, func(x *api.Change) { x.Value = v })
	}
	for _, n := range []int{1, -1, maxInt} {
		check("insertion with a column", insert, func(x *api.Change) { x.Column = n })
		check("deletion with a column", remove, func(x *api.Change) { x.Column = n })
	}
	for _, r := range [][]api.Value{row(null), insert.Row, {{Kind: 9}}} {
		check("update with a row", change, func(x *api.Change) { x.Row = r })
		check("deletion with a row", remove, func(x *api.Change) { x.Row = r })
	}
	change.Row, remove.Row = []api.Value{}, []api.Value{}
	checkErrno(t, "empty row", shopTables(), change, api.OK)
	checkErrno(t, "empty row", shopTables(), remove, api.OK)
}

// P7.2: ErrInvalid for what a kind uses.
func TestUsedFields(t *testing.T) {
	long := validChanges()[0].Row
	for _, x := range []api.Change{
		insertion(30, 9, city), insertion(30, 9, city, text("c")), insertion(30, 9, city, text("c"), null, null), insertion(30, 9, city, long...),
		insertion(30, 9, order, long[:5]...), insertion(30, 9, order, append(slices.Clone(long), null)...), insertion(30, 9, order, slices.Repeat(row(null), 17)...),
		update(30, 9, city, text("b"), 2, null), update(30, 9, city, text("b"), -1, null), update(30, 9, city, text("b"), maxInt, null), update(30, 9, city, text("b"), minInt, null),
		update(30, 9, order, text("x"), 6, null),
	} {
		checkErrno(t, "field", shopTables(), x, api.ErrInvalid)
	}
	for _, v := range brokenValues() {
		for i := range long {
			values := slices.Clone(long)
			values[i] = v
			checkErrno(t, "value of a row", shopTables(), insertion(30, 9, order, values...), api.ErrInvalid)
		}
		checkErrno(t, "key", shopTables(), update(30, 9, order, v, 5, null), api.ErrInvalid)
		checkErrno(t, "key", shopTables(), deletion(30, 9, order, v), api.ErrInvalid)
		for column := range long {
			checkErrno(t, "value", shopTables(), update(30, 9, order, text("x"), column, v), api.ErrInvalid)
		}
	}
	for _, v := range []api.Value{null, integer(api.MaxNumber), integer(-api.MaxNumber), integer(0)} {
		checkErrno(t, "value within the limits", shopTables(), update(30, 9, order, text("x"), 5, v), api.OK)
	}
	for _, v := range []api.Value{null, text(""), text(strings.Repeat("\x00", api.MaxText))} {
		checkErrno(t, "value within the limits", shopTables(), update(30, 9, order, text("x"), 3, v), api.OK)
	}
}

// P7.2: ErrKey, ErrType and ErrState.
func TestKeysTypesAndFixedColumns(t *testing.T) {
	long := validChanges()[0].Row
	changed := func(column int, v api.Value) api.Change {
		values := slices.Clone(long)
		values[column] = v
		return insertion(30, 9, order, values...)
	}
	for _, x := range []struct {
		x    api.Change
		want api.Errno
	}{
		{changed(0, null), api.ErrKey}, {insertion(30, 9, city, null, null), api.ErrKey},
		{update(30, 9, order, null, 5, null), api.ErrKey}, {deletion(30, 9, order, null), api.ErrKey},
		{changed(0, integer(1)), api.ErrType}, {changed(1, text("a")), api.ErrType}, {changed(2, integer(1)), api.ErrType}, {changed(3, integer(1)), api.ErrType}, {changed(4, text("1")), api.ErrType}, {changed(5, text("1")), api.ErrType},
		{insertion(30, 9, person, text("1"), null), api.ErrType},
		{update(30, 9, order, integer(1), 5, null), api.ErrType}, {update(30, 9, order, text("x"), 5, text("")), api.ErrType}, {update(30, 9, order, text("x"), 3, integer(0)), api.ErrType}, {update(30, 9, person, text("x"), 1, null), api.ErrType},
		{deletion(30, 9, order, integer(1)), api.ErrType}, {deletion(30, 9, person, text("7")), api.ErrType},
		{update(30, 9, order, text("x"), 0, text("x")), api.ErrState}, {update(30, 9, order, text("x"), 0, null), api.ErrState}, // example 3
		{update(30, 9, order, text("x"), 1, integer(7)), api.ErrState}, {update(30, 9, order, text("x"), 1, null), api.ErrState},
		{update(30, 9, person, integer(7), 0, integer(8)), api.ErrState}, {update(30, 9, city, text("b"), 0, text("c")), api.ErrState},
		{update(30, 9, city, text("b"), 1, null), api.OK}, {update(30, 9, order, text("x"), 2, null), api.OK}, {update(30, 9, order, text("x"), 4, null), api.OK},
	} {
		checkErrno(t, "form", shopTables(), x.x, x.want)
	}
}

// P7.2: ErrOrder, where any cell of any table counts, but not the day.
func TestOrderOfCheck(t *testing.T) {
	for _, tables := range [][][]api.Record{
		shopTables(), {nil, {record(9, positions(1, 25), text("b"), null)}, nil},
		{nil, {record(0, positions(25, 25), text("a"), null), record(9, positions(1, 24), text("b"), null)}, nil},
		{nil, {record(0, positions(1, 1), text("b"), null)}, {record(0, positions(1, 1, 1, 1, 25, 2), text("x"), null, null, null, null, null)}},
	} {
		for seq, want := range map[int]api.Errno{1: api.ErrOrder, 24: api.ErrOrder, 25: api.ErrOrder, 26: api.OK, api.MaxSeq: api.OK} {
			checkErrno(t, "order", tables, update(seq, 0, city, text("b"), 1, integer(1)), want)
			checkErrno(t, "order", tables, insertion(seq, 0, city, text("c"), integer(1)), want)
			checkErrno(t, "order", tables, deletion(seq, 0, city, text("b")), want)
		}
	}
	checkErrno(t, "first position", New(shop()), insertion(1, 0, city, text("c"), integer(1)), api.OK)
	last := [][]api.Record{nil, {record(0, positions(1, api.MaxSeq), text("b"), null)}, nil}
	checkErrno(t, "last position", last, deletion(api.MaxSeq, 0, city, text("b")), api.ErrOrder)
}

// P7.2: ErrDuplicate, ErrNotFound, ErrReference and ErrFull.
func TestErrorsOfRecords(t *testing.T) {
	for _, x := range []struct {
		x    api.Change
		want api.Errno
	}{
		{insertion(30, 0, person, integer(7), null), api.ErrDuplicate}, {insertion(30, 0, city, text("b"), integer(9)), api.ErrDuplicate}, {insertion(30, 0, city, text("x"), null), api.OK},
		{update(30, 0, person, integer(8), 1, null), api.ErrNotFound}, {update(30, 0, city, text("x"), 1, null), api.ErrNotFound}, {deletion(30, 0, city, text("a")), api.ErrNotFound}, {deletion(30, 0, order, text("b")), api.ErrNotFound},
		{insertion(30, 0, order, text("y"), integer(8), null, null, null, null), api.ErrReference}, {insertion(30, 0, order, text("y"), null, text("x"), null, null, null), api.ErrReference},
		{insertion(30, 0, order, text("y"), null, null, text("nowhere"), integer(2), null), api.ErrReference}, {insertion(30, 0, order, text("y"), integer(7), text("b"), null, integer(-3), null), api.ErrReference},
		{insertion(30, 0, order, text("y"), null, null, null, null, null), api.OK}, {insertion(30, 0, order, text("y"), integer(1), text("b"), null, integer(-2), integer(99)), api.OK},
		{update(30, 0, order, text("x"), 2, text("a")), api.ErrReference}, {update(30, 0, order, text("x"), 4, integer(0)), api.ErrReference}, {update(30, 0, order, text("x"), 2, null), api.OK}, {update(30, 0, order, text("x"), 4, integer(-2)), api.OK},
		{update(30, 0, order, text("x"), 3, text("nowhere")), api.OK}, {update(30, 0, order, text("x"), 5, integer(99)), api.OK},
		{deletion(30, 0, person, integer(7)), api.OK}, {deletion(30, 0, city, text("b")), api.OK}, // records that others reference
	} {
		checkErrno(t, "records", shopTables(), x.x, x.want)
	}
}

// P7.2: references are followed in the tables, even if a record there was removed after the cell was written.
func TestLostReference(t *testing.T) {
	tables := shopTables()
	tables[city] = nil
	checkErrno(t, "lost reference", tables, update(30, 0, order, text("x"), 2, text("b")), api.ErrReference)
	checkErrno(t, "lost reference", tables, update(30, 0, order, text("x"), 5, integer(1)), api.OK)
}

// P7.2
func TestFullTable(t *testing.T) {
	full := [][]api.Record{manyRecords(api.MaxRecords), nil, nil}
	for _, x := range []struct {
		x    api.Change
		want api.Errno
	}{
		{insertion(100, 0, person, integer(-1), null), api.ErrFull}, {insertion(100, 0, person, integer(5), null), api.ErrDuplicate}, {insertion(100, 0, city, text("a"), null), api.OK},
		{update(100, 0, person, integer(63), 1, text("a")), api.OK}, {deletion(100, 0, person, integer(0)), api.OK},
	} {
		checkErrno(t, "full", full, x.x, x.want)
	}
	checkErrno(t, "nearly full", [][]api.Record{manyRecords(api.MaxRecords - 1), nil, nil}, insertion(100, 0, person, integer(-1), null), api.OK)
	var orders []api.Record
	for i := range api.MaxRecords {
		orders = append(orders, record(0, slices.Repeat(positions(i+1), 6), text(string(rune('0'+i))), null, null, null, null, null))
	}
	checkErrno(t, "full", [][]api.Record{nil, nil, orders}, insertion(100, 0, order, text("zz"), null, text("b"), null, null, null), api.ErrReference)
	checkErrno(t, "full", [][]api.Record{nil, nil, orders}, insertion(100, 0, order, text("zz"), null, null, null, null, null), api.ErrFull)
}

// P7.2: of several errors the first one of the chapter's list is returned.
func TestOrderOfErrors(t *testing.T) {
	broken, wrong := api.Value{Kind: 3}, text("1")
	for _, x := range []struct {
		x    api.Change
		want api.Errno
	}{
		{insertion(1, 0, order, null, broken, null, null, null, null), api.ErrInvalid}, {update(1, 0, order, null, 6, null), api.ErrInvalid}, {update(1, 0, order, null, 1, broken), api.ErrInvalid}, {update(1, 0, order, broken, 1, wrong), api.ErrInvalid}, {deletion(0, 0, order, null), api.ErrInvalid},
		{insertion(1, 0, order, null, wrong, null, null, null, null), api.ErrKey}, {update(1, 0, order, null, 1, wrong), api.ErrKey}, {deletion(1, 0, order, null), api.ErrKey},
		{insertion(1, 0, order, text("x"), wrong, null, null, null, null), api.ErrType}, {update(1, 0, order, text("y"), 1, wrong), api.ErrType}, {update(1, 0, order, integer(1), 1, null), api.ErrType}, {deletion(1, 0, order, integer(1)), api.ErrType},
		{update(1, 0, order, text("y"), 1, integer(99)), api.ErrState}, {update(30, 0, order, text("y"), 1, integer(99)), api.ErrState}, {update(30, 0, order, text("x"), 1, integer(99)), api.ErrState},
		{insertion(1, 0, order, text("x"), null, null, null, null, null), api.ErrOrder}, {insertion(1, 0, order, text("y"), integer(99), null, null, null, null), api.ErrOrder}, {update(1, 0, order, text("y"), 2, null), api.ErrOrder}, {update(1, 0, order, text("x"), 2, text("a")), api.ErrOrder}, {deletion(1, 0, order, text("y")), api.ErrOrder},
		{insertion(30, 0, order, text("x"), integer(99), null, null, null, null), api.ErrDuplicate}, {update(30, 0, order, text("y"), 2, text("a")), api.ErrNotFound},
	} {
		checkErrno(t, "order of errors", shopTables(), x.x, x.want)
	}
}

// P7.2: what each kind of change does.
func TestApply(t *testing.T) {
	tables := New(shop())
	for i, x := range shopHistory() {
		next, errno := Apply(shop(), tables, x)
		if errno != api.OK || !Valid(shop(), next) {
			t.Fatalf("P7.2: change %d gives %d and %v", i, errno, next)
		}
		tables = next
	}
	if !same(tables, shopTables()) {
		t.Errorf("P7.2: Apply gives %v, want %v", tables, shopTables())
	}
}

// P7.2, example 1.
func TestApplyExample(t *testing.T) {
	tables := New(shop())
	tables, _ = Apply(shop(), tables, insertion(5, 3, person, integer(1), text("x")))
	if want := (record(3, positions(5, 5), integer(1), text("x"))); !same(tables, [][]api.Record{{want}, nil, nil}) {
		t.Errorf("P7.2: the insertion gives %v", tables)
	}
	tables, _ = Apply(shop(), tables, update(8, 4, person, integer(1), 1, null))
	if want := (record(3, positions(5, 8), integer(1), null)); !same(tables, [][]api.Record{{want}, nil, nil}) {
		t.Errorf("P7.2: the update gives %v", tables)
	}
	tables, _ = Apply(shop(), tables, deletion(9, 4, person, integer(1)))
	if !same(tables, make([][]api.Record, 3)) {
		t.Errorf("P7.2: the deletion gives %v", tables)
	}
}

// Rule 3
func TestApplyLeavesArguments(t *testing.T) {
	changes := append(validChanges(),
		insertion(30, 9, person, integer(-9), null), insertion(30, 9, person, integer(5), null), insertion(30, 9, person, integer(9), null),
		update(30, 9, person, integer(1), 1, text("n")), deletion(30, 9, person, integer(-2)), deletion(30, 9, person, integer(1)), deletion(30, 9, person, integer(7)),
		insertion(30, 9, person, integer(7), null), api.Change{},
	)
	for _, x := range changes {
		tables := roomy(shopTables())
		values := x.Row
		x.Row = roomyRow(values)
		Check(shop(), tables, x)
		checkLeft(t, "Check", tables, shopTables())
		next, _ := Apply(shop(), tables, x)
		checkLeft(t, "Apply", tables, shopTables())
		checkOwn(t, "Apply", next)
		checkLeft(t, "writing to the result of Apply", tables, shopTables())
		if full := x.Row[:len(values)+2]; !slices.Equal(full, append(slices.Clone(values), mark, mark)) {
			t.Errorf("rule 3: the row of the change is %v, before %v", full, values)
		}
	}
}
