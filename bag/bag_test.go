package bag

import (
	"slices"
	"testing"

	"erasure/api"
)

// P6.1
func TestValid(t *testing.T) {
	all := func(count int64) []api.Entry {
		var b []api.Entry
		for _, r := range ascendingRows() {
			b = append(b, api.Entry{Row: r, Count: count})
		}
		return b
	}
	for _, x := range []struct {
		b        []api.Entry
		positive bool
	}{
		{nil, true},
		{[]api.Entry{}, true},
		{[]api.Entry{{Count: 1}}, true},
		{[]api.Entry{{Count: -1}}, false},
		{[]api.Entry{one(1, api.MaxCount), one(2, 1)}, true},
		{[]api.Entry{one(1, -api.MaxCount), one(2, 1)}, false},
		{[]api.Entry{one(1, 1), one(2, -1)}, false},
		{[]api.Entry{one(1, 1), one(2, -1), one(3, 1)}, false},
		{all(1), true},
		{all(api.MaxCount), true},
		{all(-api.MaxCount), false},
		{numbers(0, api.MaxRows-1, 1), true},
		{numbers(0, api.MaxRows, 1), true},
		{numbers(0, api.MaxRows, -1), false},
		{append(numbers(0, api.MaxRows-1, 1), one(api.MaxNumber, -1)), false},
	} {
		if !Valid(x.b) || Positive(x.b) != x.positive {
			t.Errorf("P6.1: %v is valid: Valid %v, Positive %v", x.b, Valid(x.b), Positive(x.b))
		}
	}
	for _, b := range brokenBags() {
		if Valid(b) || Positive(b) {
			t.Errorf("P6.1: %v is not valid: Valid %v, Positive %v", b, Valid(b), Positive(b))
		}
	}
}

// P6.1: of all pairs of rows, exactly those in ascending order are valid.
func TestValidOrder(t *testing.T) {
	rows := ascendingRows()
	for i := range rows {
		for k := range rows {
			b := []api.Entry{{Row: rows[i], Count: 1}, {Row: rows[k], Count: 1}}
			if Valid(b) != (i < k) || Positive(b) != (i < k) {
				t.Errorf("P6.1: %v: Valid %v, Positive %v", b, Valid(b), Positive(b))
			}
		}
	}
}

// P6.4
func TestCount(t *testing.T) {
	rows := ascendingRows()
	var even []api.Entry
	for i, r := range rows {
		if i%2 == 0 {
			even = append(even, api.Entry{Row: r, Count: int64(i - 15)})
		}
	}
	for i, r := range rows {
		want := int64(0)
		if i%2 == 0 {
			want = int64(i - 15)
		}
		if got := Count(even, r); got != want {
			t.Errorf("P6.4: Count of %v is %d, want %d", r, got, want)
		}
	}
	full := numbers(-7, api.MaxRows, -api.MaxCount)
	for n := int64(-9); n < api.MaxRows; n++ {
		want := int64(0)
		if -7 <= n && n < api.MaxRows-7 {
			want = -api.MaxCount
		}
		if got := Count(full, row(integer(n))); got != want {
			t.Errorf("P6.4: Count of %d is %d, want %d", n, got, want)
		}
	}
	if got := Count(nil, nil); got != 0 {
		t.Errorf("P6.4: Count of an empty bag is %d", got)
	}
}

// P6.4: the row that is looked up is compared by value.CompareRows, which takes a value that is not valid for null.
func TestCountOfBrokenRow(t *testing.T) {
	b := []api.Entry{entry(2), entry(3, api.Value{}), entry(4, api.Value{}, integer(1)), one(7, 5)}
	for _, x := range []struct {
		row  []api.Value
		want int64
	}{
		{row(api.Value{Kind: 9}), 3},
		{row(integer(maxInt64)), 3},
		{row(api.Value{Int: 7}, integer(1)), 4},
		{row(integer(1), api.Value{Int: 7}), 0},
		{make([]api.Value, 100), 0},
		{slices.Repeat(row(integer(7)), 17), 0},
	} {
		if got := Count(b, x.row); got != x.want {
			t.Errorf("P6.4: Count of %v is %d, want %d", x.row, got, x.want)
		}
	}
}

// P6.4
func TestSupport(t *testing.T) {
	for _, x := range []struct{ b, want []api.Entry }{
		{nil, nil},
		{[]api.Entry{one(1, 3), one(2, -1)}, []api.Entry{one(1, 1)}}, // example 3
		{[]api.Entry{one(1, -1), one(2, -api.MaxCount)}, nil},
		{[]api.Entry{entry(1), entry(-1, api.Value{}), one(2, api.MaxCount), one(3, 1)}, []api.Entry{entry(1), one(2, 1), one(3, 1)}},
		{numbers(0, api.MaxRows, api.MaxCount), numbers(0, api.MaxRows, 1)},
	} {
		if got := Support(x.b); !same(got, x.want) {
			t.Errorf("P6.4: Support(%v) = %v, want %v", x.b, got, x.want)
		}
	}
}

// P6.4
func TestSize(t *testing.T) {
	for _, x := range []struct {
		b    []api.Entry
		want int64
	}{
		{nil, 0},
		{[]api.Entry{one(1, 3), one(2, -1)}, 2},
		{[]api.Entry{one(1, 3), one(2, -5), entry(-4, text("a"))}, -6},
		{[]api.Entry{one(1, 3), one(2, -3)}, 0},
		{numbers(0, api.MaxRows, api.MaxCount), api.MaxRows * api.MaxCount},
		{numbers(0, api.MaxRows, -api.MaxCount), -api.MaxRows * api.MaxCount},
	} {
		if got := Size(x.b); got != x.want {
			t.Errorf("P6.4: Size(%v) = %d, want %d", x.b, got, x.want)
		}
	}
}

// P6.4: nothing is told of bags that are not valid.
func TestLookIntoBrokenBag(t *testing.T) {
	for _, b := range brokenBags() {
		for _, e := range b[:min(len(b), 4)] {
			if got := Count(b, e.Row); got != 0 {
				t.Errorf("P6.4: %v is not valid, Count of %v is %d", b, e.Row, got)
			}
		}
		if support, size := Support(b), Size(b); len(support) != 0 || size != 0 {
			t.Errorf("P6.4: %v is not valid: Support %v, Size %d", b, support, size)
		}
	}
}

// Rule 3
func TestLookLeavesArguments(t *testing.T) {
	b := []api.Entry{entry(2), entry(3, api.Value{}), entry(-4, api.Value{}, integer(1)), one(7, 5), entry(1, text("a"), text("b"))}
	checkOwn(t, "Support", func(a, _ []api.Entry) []api.Entry { return Support(a) }, b, nil)
	checkOwn(t, "other functions", func(a, _ []api.Entry) []api.Entry {
		Valid(a)
		Positive(a)
		Count(a, a[2].Row)
		Size(a)
		return nil
	}, b, nil)
}
