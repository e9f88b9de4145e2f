package syntax

import (
	"reflect"
	"slices"
	"strings"
	"testing"

	"erasure/api"
	"erasure/catalogue"
)

// n and s are constants of a number and a text, col is a column, op an operator with operands.
func n(i int64) []api.Term {
	return []api.Term{{Op: api.OpConst, Value: api.Value{Kind: api.KindInt, Int: i}}}
}
func s(x string) []api.Term {
	return []api.Term{{Op: api.OpConst, Value: api.Value{Kind: api.KindText, Text: x}}}
}
func col(i int) []api.Term { return []api.Term{{Op: api.OpColumn, Column: i}} }
func op(o int, operands ...[]api.Term) []api.Term {
	return append([]api.Term{{Op: o}}, slices.Concat(operands...)...)
}

// unmark returns a source without the sign ^, which stands before the token at which an error is, and the offset of this token, or 0.
func unmark(marked string) (string, int) {
	before, behind, _ := strings.Cut(marked, "^")
	if len(before) == len(marked) {
		return marked, 0
	}
	return before + behind, len(before)
}

// checkError checks that Parse returns an error at the mark.
func checkError(t *testing.T, marked string, want api.Errno) {
	t.Helper()
	src, at := unmark(marked)
	c, gotAt, errno := Parse(src)
	if gotAt != at || errno != want {
		t.Errorf("P5.1: Parse(%q) = %d, %d, want %d, %d", src, gotAt, errno, at, want)
	}
	if !reflect.DeepEqual(c, api.Catalogue{}) {
		t.Errorf("P5.1: Parse(%q) has a catalogue beside the error %d", src, errno)
	}
}

// checkParse checks that Parse returns a valid catalogue.
func checkParse(t *testing.T, src string, want api.Catalogue) {
	t.Helper()
	c, at, errno := Parse(src)
	if at != 0 || errno != api.OK {
		t.Errorf("P5.1: Parse(%q) = %d, %d", src, at, errno)
		return
	}
	if !same(c, want) {
		t.Errorf("P5.1: Parse(%q):\n got %+v\nwant %+v", src, c, want)
	}
	if !catalogue.Valid(c) {
		t.Errorf("consequence: Parse(%q) is not valid", src)
	}
}

// same compares catalogues, lists or expressions, where nil and empty lists are equivalent.
func same(a, b any) bool {
	return sameValue(reflect.ValueOf(a), reflect.ValueOf(b))
}

func sameValue(a, b reflect.Value) bool {
	switch a.Kind() {
	case reflect.Struct:
		for i := range a.NumField() {
			if !sameValue(a.Field(i), b.Field(i)) {
				return false
			}
		}
		return true
	case reflect.Slice:
		if a.Len() != b.Len() {
			return false
		}
		for i := range a.Len() {
			if !sameValue(a.Index(i), b.Index(i)) {
				return false
			}
		}
		return true
	default:
		return a.Interface() == b.Interface()
	}
}

// everything is a source with all parts of the grammar, and everyCatalogue what it describes.
const everything = `
# The declarations of a kind are not together, and stores are named before they are declared.
index words on bought.what;
view bought select distinct who = right.mail, what = item, left = left.no from orders join person on who = id, via = mail where not isnull(item) and right.age <= 120;
table person(id int namespace person personal by id, mail text namespace mail personal all by mail id mail duty 7, age int) erase row retain 30;
stream log of orders;
table orders(no int, who int references person personal by who, item text personal by via who duty 3, via text namespace mail) retain 9;
view tally group with = who, size = length(what) with n = count, total = sum(left), low = min(what), high = max(left + 1), mid = median(-left) from bought where left < 10 or left = -1;
view twice union bought bought;
view all group with with = count from twice join person;
sketch most count 16 2 on bought.who; sketch some bloom 8 1 on person.id; sketch few bottom 4 1 on tally.mid;
cache recent on twice.who for 5;
release numbers of tally above 3;
backup daily of orders, person keep 90;
index people on person.mail;
`

func everyCatalogue() api.Catalogue {
	return api.Catalogue{
		Tables: []api.Table{
			{Name: "person", Erase: api.EraseRow, Retain: 30, Columns: []api.Column{
				{Name: "id", Type: api.KindInt, Namespace: "person", Owners: []int{0}},
				{Name: "mail", Type: api.KindText, Namespace: "mail", Owners: []int{0, 1}, Joint: api.JointAll, Duty: 7},
				{Name: "age", Type: api.KindInt},
			}},
			{Name: "orders", Retain: 9, Columns: []api.Column{
				{Name: "no", Type: api.KindInt},
				{Name: "who", Type: api.KindInt, References: "person", Owners: []int{1}},
				{Name: "item", Type: api.KindText, Owners: []int{1, 3}, Duty: 3},
				{Name: "via", Type: api.KindText, Namespace: "mail"},
			}},
		},
		Views: []api.View{
			{Name: "bought", Left: "orders", Right: "person", Distinct: true, On: [][2]int{{1, 0}, {3, 1}},
				Where: op(api.OpAnd, op(api.OpNot, op(api.OpIsNull, col(2))), op(api.OpNot, op(api.OpLess, n(120), col(6)))),
				Items: []api.Item{{Name: "who", Expr: col(5)}, {Name: "what", Expr: col(2)}, {Name: "left", Expr: col(0)}}},
			{Name: "tally", Kind: api.ViewGroup, Left: "bought",
				Where: op(api.OpOr, op(api.OpLess, col(2), n(10)), op(api.OpEqual, col(2), n(-1))),
				Items: []api.Item{{Name: "with", Expr: col(0)}, {Name: "size", Expr: op(api.OpLength, col(1))}},
				Aggregates: []api.Aggregate{{Name: "n"}, {Name: "total", Func: api.AggSum, Expr: col(2)}, {Name: "low", Func: api.AggMin, Expr: col(1)},
					{Name: "high", Func: api.AggMax, Expr: op(api.OpAdd, col(2), n(1))}, {Name: "mid", Func: api.AggMedian, Expr: op(api.OpNegate, col(2))}}},
			{Name: "twice", Kind: api.ViewUnion, Left: "bought", Right: "bought"},
			{Name: "all", Kind: api.ViewGroup, Left: "twice", Right: "person", Aggregates: []api.Aggregate{{Name: "with"}}},
		},
		Indexes: []api.Index{{Name: "words", Source: "bought", Column: 1}, {Name: "people", Source: "person", Column: 1}},
		Sketches: []api.Sketch{
			{Name: "most", Source: "bought", Column: 0, Kind: api.SketchCount, Width: 16, Depth: 2},
			{Name: "some", Source: "person", Column: 0, Kind: api.SketchBloom, Width: 8, Depth: 1},
			{Name: "few", Source: "tally", Column: 6, Kind: api.SketchBottom, Width: 4, Depth: 1},
		},
		Caches:   []api.Cache{{Name: "recent", Source: "twice", Column: 0, TTL: 5}},
		Releases: []api.Release{{Name: "numbers", Source: "tally", Threshold: 3}},
		Streams:  []api.Stream{{Name: "log", Table: "orders"}},
		Backups:  []api.Backup{{Name: "daily", Tables: []string{"orders", "person"}, Keep: 90}},
	}
}
