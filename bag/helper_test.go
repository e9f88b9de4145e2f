package bag

import (
	"slices"
	"strings"
	"testing"

	"erasure/api"
)

const (
	minInt64 = -1 << 63
	maxInt64 = 1<<63 - 1
)

func integer(n int64) api.Value { return api.Value{Kind: api.KindInt, Int: n} }
func text(s string) api.Value   { return api.Value{Kind: api.KindText, Text: s} }

// row is a row of the given values, entry an entry of this row, and one an entry of a row of one number.
func row(values ...api.Value) []api.Value { return values }
func entry(count int64, values ...api.Value) api.Entry {
	return api.Entry{Row: values, Count: count}
}
func one(n, count int64) api.Entry { return entry(count, integer(n)) }

// numbers is the bag of the rows of one number from low on, each with this multiplicity.
func numbers(low int64, many int, count int64) []api.Entry {
	var b []api.Entry
	for i := range many {
		b = append(b, one(low+int64(i), count))
	}
	return b
}

// ascendingRows returns valid rows in ascending order.
func ascendingRows() [][]api.Value {
	return [][]api.Value{
		{}, {{}}, {{}, {}}, longest(api.Value{}, 15), {{}, integer(0)}, {{}, text("")},
		{integer(-api.MaxNumber)}, {integer(-1)}, {integer(-1), {}}, {integer(-1), integer(5)}, {integer(0)}, {integer(1)}, {integer(1), text("a")}, {integer(256)}, {integer(api.MaxNumber)},
		{text("")}, {text(""), text("")}, {text("\x00")}, {text("\x00"), {}}, {text("\x00\x00")}, {text("\x01")}, {text("1")}, {text("a")}, {text("a"), {}}, {text("a"), integer(1)}, {text("a"), text("b")},
		{text("ab")}, {text("b")}, {text("\xff")}, longest(text(strings.Repeat("\xff", api.MaxText)), 16),
	}
}

// longest is a row of so many times a value, which is filled up with numbers to the greatest length of a valid row.
func longest(v api.Value, many int) []api.Value {
	r := slices.Repeat([]api.Value{integer(3)}, 2*api.MaxColumns)
	for i := range many {
		r[i] = v
	}
	return r
}

// brokenEntries returns entries that no bag and no list of which there is a bag can contain.
func brokenEntries() []api.Entry {
	var broken []api.Entry
	for _, count := range []int64{api.MaxCount + 1, -api.MaxCount - 1, 1 << 32, -1 << 32, maxInt64, minInt64} {
		broken = append(broken, one(5, count))
	}
	for _, v := range []api.Value{
		{Int: 1}, {Text: "a"}, integer(api.MaxNumber + 1), integer(-api.MaxNumber - 1), integer(minInt64), {Kind: api.KindInt, Text: "a"},
		text(strings.Repeat("a", api.MaxText+1)), {Kind: api.KindText, Int: 1}, {Kind: 3}, {Kind: -1},
	} {
		broken = append(broken, entry(1, v), entry(-1, integer(5), v))
	}
	long := slices.Repeat([]api.Value{integer(5)}, 2*api.MaxColumns+1)
	return append(broken, api.Entry{Row: long, Count: 1})
}

// brokenBags returns bags that are not valid.
func brokenBags() [][]api.Entry {
	bags := [][]api.Entry{
		{one(1, 0)}, {one(1, 1), one(2, 0)}, {one(1, 0), one(2, 1)}, {entry(0)},
		{one(1, 1), one(1, 1)}, {one(1, 1), one(1, -1)}, {entry(1), {Row: nil, Count: 2}},
		{one(2, 1), one(1, 1)}, {one(1, 1), one(3, 1), one(2, 1)}, {one(1, 1), one(2, 1), one(2, 1), one(3, 1)}, {one(1, 1), entry(1, api.Value{})}, {entry(1, api.Value{}), entry(1)},
		{entry(1, integer(1), integer(2)), one(1, 1)}, {entry(1, text("a")), one(1, 1)},
		numbers(0, api.MaxRows+1, 1), numbers(0, 3*api.MaxRows, -1), append(numbers(0, api.MaxRows, 1), one(0, -1)),
	}
	for _, e := range brokenEntries() {
		bags = append(bags, []api.Entry{e}, []api.Entry{entry(1), e}, []api.Entry{e, entry(1, text("z"))}, []api.Entry{one(1, 1), e, entry(1, text("z"))})
	}
	return bags
}

// same compares bags, where nil and empty lists are equivalent.
func same(a, b []api.Entry) bool {
	return slices.EqualFunc(a, b, func(x, y api.Entry) bool { return x.Count == y.Count && slices.Equal(x.Row, y.Row) })
}

// copied returns a copy of a list, of which nothing else keeps a part.
func copied(l []api.Entry) []api.Entry {
	var c []api.Entry
	for _, e := range l {
		c = append(c, api.Entry{Row: append([]api.Value(nil), e.Row...), Count: e.Count})
	}
	return c
}

// roomy returns a copy of a list with room behind its entries and the values of its rows, in which mark stands.
func roomy(l []api.Entry, mark api.Value) []api.Entry {
	var c []api.Entry
	for _, e := range l {
		r := append(append([]api.Value(nil), e.Row...), mark, mark)
		c = append(c, api.Entry{Row: r[:len(e.Row)], Count: e.Count})
	}
	return append(c, entry(1, mark), entry(1, mark))[:len(l)]
}

// checkOwn checks that a call left its arguments, and that writing to its result changes neither these nor another row of the result (rule 3).
func checkOwn(t *testing.T, what string, call func(a, b []api.Entry) []api.Entry, a, b []api.Entry) {
	t.Helper()
	mark, other := text("mark"), text("other")
	x, y := roomy(a, mark), roomy(b, mark)
	if len(x) > 1 && slices.Equal(x[0].Row, x[1].Row) {
		x[1].Row = x[0].Row // entries of an argument may share memory
	}
	result := call(x, y)
	for i := range result {
		before := copied(result)
		full := result[i].Row[:cap(result[i].Row)]
		for k := range full {
			full[k] = other
		}
		before[i] = result[i]
		if !same(result, before) {
			t.Errorf("%s: writing to row %d of the result changes another one", what, i)
		}
	}
	spare := result[:cap(result)]
	for i := range spare {
		spare[i] = entry(7, other)
	}
	for _, z := range [][2][]api.Entry{{x, a}, {y, b}} {
		if !same(z[0], z[1]) {
			t.Errorf("%s: an argument has changed: %v, before %v", what, z[0], z[1])
		}
		for _, e := range z[0] {
			if tail := e.Row[len(e.Row) : len(e.Row)+2]; !slices.Equal(tail, row(mark, mark)) {
				t.Errorf("%s: the memory behind the row %v has changed", what, e.Row)
			}
		}
		if tail := z[0][len(z[0]) : len(z[0])+2]; !same(tail, []api.Entry{entry(1, mark), entry(1, mark)}) {
			t.Errorf("%s: the memory behind the argument %v has changed", what, z[0])
		}
	}
}
