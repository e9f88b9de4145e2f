package table

import (
	"slices"
	"testing"

	"erasure/api"
)

// checkHistory checks History, and whether the list is ordered.
func checkHistory(t *testing.T, what string, l []api.Change, at int, want api.Errno, ordered bool) {
	t.Helper()
	if got, errno := History(shop(), l); got != at || errno != want {
		t.Errorf("P7.3: %s: History gives %d and %d, want %d and %d", what, got, errno, at, want)
	}
	if got := Ordered(shop(), l); got != ordered {
		t.Errorf("P7.3: %s: Ordered gives %v", what, got)
	}
}

// alternating returns so many changes that form a history: a record is inserted and deleted again and again.
func alternating(count int) []api.Change {
	var l []api.Change
	for i := range count {
		if i%2 == 0 {
			l = append(l, insertion(i+1, 0, city, text("a"), null))
		} else {
			l = append(l, deletion(i+1, 0, city, text("a")))
		}
	}
	return l
}

// P7.3
func TestHistory(t *testing.T) {
	checkHistory(t, "empty", nil, 0, api.OK, true)
	checkHistory(t, "empty", []api.Change{}, 0, api.OK, true)
	checkHistory(t, "shop", shopHistory(), 0, api.OK, true)
	checkHistory(t, "of full length", alternating(api.MaxChanges), 0, api.OK, true)
	checkHistory(t, "too long", alternating(api.MaxChanges+1), 0, api.ErrFull, false)
	checkHistory(t, "too long and not well formed", make([]api.Change, api.MaxChanges+1), 0, api.ErrFull, false)
	checkHistory(t, "not well formed", make([]api.Change, api.MaxChanges), 0, api.ErrInvalid, false)
	checkHistory(t, "far", []api.Change{insertion(1, 0, city, text("a"), null), deletion(api.MaxSeq, api.MaxDay, city, text("a"))}, 0, api.OK, true)
	checkHistory(t, "full table", manyInsertions(api.MaxRecords, 1, 0), 0, api.OK, true)
	checkHistory(t, "table above the limit", manyInsertions(api.MaxRecords+1, 1, 0), api.MaxRecords, api.ErrFull, true)
	last := alternating(api.MaxChanges)
	last[api.MaxChanges-1].Kind = 0
	checkHistory(t, "last change", last, api.MaxChanges-1, api.ErrInvalid, false)
}

// P7.3: catalogues that are not valid.
func TestHistoryOfBrokenCatalogue(t *testing.T) {
	for _, c := range brokenCatalogues() {
		for _, l := range [][]api.Change{nil, shopHistory(), alternating(api.MaxChanges + 1)} {
			if at, errno := History(c, l); at != 0 || errno != api.ErrInvalid || Ordered(c, l) {
				t.Errorf("P7.3: History gives %d and %d, Ordered %v", at, errno, Ordered(c, l))
			}
			if got := Replay(c, l); len(got) != 0 {
				t.Errorf("P7.4: Replay gives %v", got)
			}
		}
	}
	if at, errno := History(api.Catalogue{}, nil); at != 0 || errno != api.OK || !Ordered(api.Catalogue{}, nil) {
		t.Errorf("P7.3: without tables, History gives %d and %d, Ordered %v", at, errno, Ordered(api.Catalogue{}, nil))
	}
	if at, errno := History(api.Catalogue{}, shopHistory()); at != 0 || errno != api.ErrInvalid || Ordered(api.Catalogue{}, shopHistory()) {
		t.Errorf("P7.3: without tables, History gives %d and %d", at, errno)
	}
	if got := Replay(api.Catalogue{}, shopHistory()); len(got) != 0 {
		t.Errorf("P7.4: Replay without tables gives %v", got)
	}
}

// P7.3: each error, at each change of a history.
func TestErrorsOfHistory(t *testing.T) {
	for at := range shopHistory() {
		for _, x := range []struct {
			what    string
			f       func(x *api.Change)
			want    api.Errno
			ordered bool
		}{
			{"position", func(x *api.Change) { x.Seq = 0 }, api.ErrInvalid, false},
			{"kind", func(x *api.Change) { x.Kind = 4 }, api.ErrInvalid, false},
			{"key", func(x *api.Change) { *x = deletion(x.Seq, x.Day, x.Table, null) }, api.ErrKey, false},
			{"type", func(x *api.Change) { *x = update(x.Seq, x.Day, city, integer(7), 1, null) }, api.ErrType, false},
			{"fixed", func(x *api.Change) { *x = update(x.Seq, x.Day, order, text("x"), 1, null) }, api.ErrState, false},
			{"duplicate", func(x *api.Change) { *x = insertion(x.Seq, x.Day, person, integer(-2), null) }, api.ErrDuplicate, true},
			{"not found", func(x *api.Change) { *x = deletion(x.Seq, x.Day, city, text("zz")) }, api.ErrNotFound, true},
			{"reference", func(x *api.Change) {
				*x = insertion(x.Seq, x.Day, order, text("zz"), integer(99), null, null, null, null)
			}, api.ErrReference, true},
		} {
			l := shopHistory()
			x.f(&l[at])
			if x.want == api.ErrDuplicate && at < 2 {
				continue // the record that the insertion would repeat is not there yet
			}
			checkHistory(t, x.what, l, at, x.want, x.ordered)
		}
	}
}

// P7.3: ErrOrder
func TestOrderOfHistory(t *testing.T) {
	for at := range shopHistory() {
		l := shopHistory()
		l[at].Day = 0
		want, wantAt := api.ErrOrder, at
		if at == 0 {
			want, wantAt = api.OK, 0
		}
		checkHistory(t, "day", l, wantAt, want, want == api.OK)
		for _, seq := range []int{0, -1} {
			if at > 0 {
				l := shopHistory()
				l[at].Seq = l[at-1].Seq + seq
				checkHistory(t, "position", l, at, api.ErrOrder, false)
				l[at].Day++
				checkHistory(t, "position on a later day", l, at, api.ErrOrder, false)
			}
		}
	}
	l := shopHistory()
	l[0].Day = 2
	checkHistory(t, "day of the first change", l, 1, api.ErrOrder, false)
	for i := range l {
		l[i].Day = 4
	}
	checkHistory(t, "one day", l, 0, api.OK, true)
	l[2].Seq = 5 // the positions need not be those of other changes plus 1
	checkHistory(t, "another position", l, 0, api.OK, true)
}

// P7.3: of several errors of a change the first one of the chapter's list is returned, and of several changes the first one with an error.
func TestOrderOfErrorsOfHistory(t *testing.T) {
	first := insertion(5, 5, person, integer(1), null)
	for _, x := range []struct {
		x       api.Change
		want    api.Errno
		ordered bool
	}{
		{insertion(5, 5, person, null, api.Value{Kind: 3}), api.ErrInvalid, false}, {deletion(5, 5, person, null), api.ErrKey, false}, {insertion(1, 1, person, integer(1), integer(1)), api.ErrType, false},
		{update(5, 4, person, integer(9), 0, integer(9)), api.ErrState, false},
		{insertion(5, 5, person, integer(1), null), api.ErrOrder, false}, {insertion(6, 4, person, integer(1), null), api.ErrOrder, false}, {update(5, 5, person, integer(9), 1, null), api.ErrOrder, false}, {deletion(6, 4, person, integer(9)), api.ErrOrder, false}, {insertion(6, 4, order, text("x"), integer(9), null, null, null, null), api.ErrOrder, false},
		{insertion(6, 5, person, integer(1), text("a")), api.ErrDuplicate, true}, {update(6, 5, order, text("x"), 2, text("a")), api.ErrNotFound, true},
		{insertion(6, 5, order, text("x"), integer(9), null, null, null, null), api.ErrReference, true}, {deletion(6, 5, person, integer(1)), api.OK, true},
	} {
		at := 1
		if x.want == api.OK {
			at = 0
		}
		checkHistory(t, "order of errors", []api.Change{first, x.x}, at, x.want, x.ordered)
		if x.want != api.OK {
			checkHistory(t, "first change with an error", []api.Change{first, x.x, {}, x.x}, at, x.want, false)
		}
	}
	full := append(manyInsertions(api.MaxRecords, 1, 0), insertion(100, 0, person, integer(-1), null))
	checkHistory(t, "full", full, api.MaxRecords, api.ErrFull, true)
	full[api.MaxRecords].Row = row(integer(0), null)
	checkHistory(t, "full", full, api.MaxRecords, api.ErrDuplicate, true)
}

// checkReplay checks Replay.
func checkReplay(t *testing.T, what string, l []api.Change, want [][]api.Record) {
	t.Helper()
	if got := Replay(shop(), l); !same(got, want) {
		t.Errorf("P7.4: %s: Replay gives %v, want %v", what, got, want)
	}
}

// P7.4
func TestReplay(t *testing.T) {
	checkReplay(t, "empty", nil, make([][]api.Record, 3))
	checkReplay(t, "shop", shopHistory(), shopTables())
	checkReplay(t, "longer than a history", alternating(2*api.MaxChanges+1), [][]api.Record{nil, {record(0, positions(2*api.MaxChanges+1, 2*api.MaxChanges+1), text("a"), null)}, nil})
	replaced := []api.Change{insertion(5, 3, person, integer(1), text("x")), insertion(9, 4, person, integer(1), text("y"))} // example 2
	checkReplay(t, "replaced", replaced, [][]api.Record{{record(4, positions(9, 9), integer(1), text("y"))}, nil, nil})
	updated := slices.Insert(slices.Clone(replaced), 1, update(7, 3, person, integer(1), 1, text("z")))
	checkReplay(t, "updated and replaced", updated, [][]api.Record{{record(4, positions(9, 9), integer(1), text("y"))}, nil, nil})
	checkReplay(t, "replaced and deleted", append(replaced, deletion(10, 4, person, integer(1))), make([][]api.Record, 3))
	absent := []api.Change{update(5, 3, person, integer(1), 1, null), deletion(6, 3, person, integer(1)), insertion(7, 3, city, text("a"), null), deletion(8, 3, city, text("b")), update(8, 3, city, text("b"), 1, null)}
	checkReplay(t, "absent", absent, [][]api.Record{nil, {record(3, positions(7, 7), text("a"), null)}, nil})
	lost := []api.Change{insertion(5, 3, order, text("x"), integer(1), text("b"), null, integer(2), null), update(6, 3, order, text("x"), 2, text("c"))}
	checkReplay(t, "references to nobody", lost, [][]api.Record{nil, nil, {record(3, positions(5, 5, 6, 5, 5, 5), text("x"), integer(1), text("c"), null, integer(2), null)}})
}

// P7.4: neither positions nor days have to be in order.
func TestReplayWithoutOrder(t *testing.T) {
	l := []api.Change{
		insertion(9, 5, person, integer(3), text("a")), insertion(9, 4, person, integer(1), text("b")), insertion(2, 7, person, integer(2), text("c")),
		update(1, 0, person, integer(3), 1, text("d")), update(9, 9, person, integer(1), 1, null), insertion(1, 1, person, integer(2), null),
	}
	checkReplay(t, "without order", l, [][]api.Record{{
		record(4, positions(9, 9), integer(1), null), record(1, positions(1, 1), integer(2), null), record(5, positions(9, 1), integer(3), text("d")),
	}, nil, nil})
}

// P7.4: changes that are not well formed have no effect.
func TestReplayOfBrokenChanges(t *testing.T) {
	broken := []api.Change{
		{}, {Kind: 4, Seq: 90}, deletion(0, 9, person, integer(7)), deletion(api.MaxSeq+1, 9, person, integer(7)), deletion(90, -1, person, integer(7)), deletion(90, api.MaxDay+1, person, integer(7)), deletion(90, 9, 3, integer(7)), deletion(90, 9, -1, integer(7)),
		{Kind: api.ChangeDelete, Seq: 90, Key: integer(7), Column: 1}, {Kind: api.ChangeDelete, Seq: 90, Key: integer(7), Value: integer(1)}, {Kind: api.ChangeDelete, Seq: 90, Key: integer(7), Row: row(null)},
		insertion(90, 9, person, integer(8)), insertion(90, 9, person, null, null), insertion(90, 9, person, text("8"), null), insertion(90, 9, person, integer(8), integer(8)), insertion(90, 9, person, integer(8), api.Value{Kind: 9}),
		update(90, 9, person, integer(7), 0, integer(7)), update(90, 9, person, integer(7), 2, null), update(90, 9, person, integer(7), 1, integer(7)), update(90, 9, person, text("7"), 1, null), update(90, 9, order, text("x"), 1, null), deletion(90, 9, person, null),
	}
	for i, x := range broken {
		checkReplay(t, "broken change", append(shopHistory(), x), shopTables())
		if Ordered(shop(), append(shopHistory(), x)) {
			t.Errorf("P7.3: with the change %d the history is ordered", i)
		}
	}
	var l []api.Change
	for _, x := range shopHistory() {
		l = append(append(l, x), broken...)
	}
	checkReplay(t, "broken changes in between", l, shopTables())
}

// P7.4: a full table takes no new record, but replaces, updates and deletes.
func TestReplayOfFullTable(t *testing.T) {
	l := append(manyInsertions(api.MaxRecords, 1, 0), insertion(100, 1, person, integer(-1), null), insertion(101, 1, person, integer(10000), null))
	full := Replay(shop(), manyInsertions(api.MaxRecords, 1, 0))
	if len(full[person]) != api.MaxRecords || !Valid(shop(), full) {
		t.Errorf("P7.4: a full table has %d records", len(full[person]))
	}
	checkReplay(t, "full", l, full)
	l = append(l, insertion(102, 1, person, integer(30), text("a")), update(103, 1, person, integer(40), 1, text("b")), insertion(104, 1, city, text("a"), null))
	full[person][3] = record(1, positions(102, 102), integer(30), text("a"))
	full[person][4] = record(0, positions(5, 103), integer(40), text("b"))
	full[city] = []api.Record{record(1, positions(104, 104), text("a"), null)}
	checkReplay(t, "full and changed", l, full)
	l = append(l, deletion(105, 1, person, integer(0)), insertion(106, 1, person, integer(35), null), insertion(107, 1, person, integer(36), null))
	full[person] = slices.Insert(full[person][1:], 3, record(1, positions(106, 106), integer(35), null))
	checkReplay(t, "full again", l, full)
}

// Rule 3
func TestListsStay(t *testing.T) {
	roomyChanges := func() []api.Change {
		l := append(shopHistory(), insertion(90, 9, person, integer(7), null), api.Change{}, api.Change{Seq: -7}, api.Change{Seq: -7})
		for i := range l {
			l[i].Row = roomyRow(l[i].Row)
		}
		return l
	}
	isSame := func(a, b api.Change) bool {
		sameRow := slices.Equal(a.Row[:len(a.Row)+2], b.Row[:len(b.Row)+2])
		a.Row, b.Row = nil, nil
		return sameRow && a.Kind == b.Kind && a.Seq == b.Seq && a.Day == b.Day && a.Table == b.Table && a.Key == b.Key && a.Column == b.Column && a.Value == b.Value
	}
	all := roomyChanges()
	l := all[:len(all)-2]
	History(shop(), l)
	Ordered(shop(), l)
	checkOwn(t, "Replay", Replay(shop(), l))
	if !slices.EqualFunc(all, roomyChanges(), isSame) {
		t.Errorf("rule 3: a list has changed: %v", all)
	}
}
