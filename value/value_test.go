package value

import (
	"slices"
	"strings"
	"testing"

	"erasure/api"
)

func integer(n int64) api.Value { return api.Value{Kind: api.KindInt, Int: n} }
func text(s string) api.Value   { return api.Value{Kind: api.KindText, Text: s} }

const (
	minInt64 = -1 << 63
	maxInt64 = 1<<63 - 1
)

// ascending returns valid values in ascending order.
func ascending() []api.Value {
	return []api.Value{
		{},
		integer(-api.MaxNumber), integer(-api.MaxNumber + 1), integer(-256), integer(-255), integer(-1), integer(0), integer(1),
		integer(255), integer(256), integer(65536), integer(1 << 24), integer(api.MaxNumber - 1), integer(api.MaxNumber),
		text(""), text("\x00"), text("\x00\x00"), text("\x00\xff"), text("\x01"), text("\x03"), text("\x1f"), text(" "), text("!"),
		text("\""), text("10"), text("9"), text("A"), text("\\"), text("a"), text("a\x00"), text("a\x00\x00"), text("a\x00\xff"),
		text("a\x01"), text("ab"), text("b"), text("null"), text("~"), text("\x7f"), text("\xc3\xa4"),
		text("\xff"), text("\xff\x00"), text(strings.Repeat("\xff", api.MaxText)),
	}
}

// broken returns values that are not valid.
func broken() []api.Value {
	return []api.Value{
		{Int: 1}, {Int: -1}, {Text: "a"}, {Text: "\x00"},
		integer(api.MaxNumber + 1), integer(-api.MaxNumber - 1), integer(maxInt64), integer(minInt64),
		{Kind: api.KindInt, Int: 1, Text: "1"}, {Kind: api.KindInt, Text: "\x00"},
		text(strings.Repeat("a", api.MaxText+1)), text(strings.Repeat("a", 1000)), {Kind: api.KindText, Int: 1}, {Kind: api.KindText, Int: -1, Text: "a"},
		{Kind: 3}, {Kind: -1}, {Kind: maxInt64}, {Kind: minInt64}, {Kind: 258, Int: 5}, {Kind: 259, Text: "a"},
	}
}

// rows returns rows of up to two of the values, and some that are longer than valid ones.
func rows(values []api.Value) [][]api.Value {
	all := [][]api.Value{nil, {}}
	for _, a := range values {
		all = append(all, []api.Value{a})
		for _, b := range values {
			all = append(all, []api.Value{a, b})
		}
	}
	for _, n := range []int{15, 16, 17, 40} {
		all = append(all, slices.Repeat([]api.Value{{}}, n), slices.Repeat([]api.Value{text("a")}, n))
	}
	return all
}

// P1.1
func TestValid(t *testing.T) {
	for _, v := range ascending() {
		if !Valid(v) || Clean(v) != v {
			t.Errorf("P1.1: %v is valid: Valid %v, Clean %v", v, Valid(v), Clean(v))
		}
	}
	for _, v := range broken() {
		if Valid(v) || Clean(v) != (api.Value{}) {
			t.Errorf("P1.1: %v is not valid: Valid %v, Clean %v", v, Valid(v), Clean(v))
		}
	}
	for n := 0; n <= api.MaxText+2; n++ {
		if got, want := Valid(text(strings.Repeat("\x00", n))), n <= api.MaxText; got != want {
			t.Errorf("P1.1: Valid of a text of %d bytes: %v", n, got)
		}
	}
}

// P1.1
func TestValidRow(t *testing.T) {
	for n := range 40 {
		row := slices.Repeat([]api.Value{text("a")}, n)
		if got, want := ValidRow(row), n <= 2*api.MaxColumns; got != want {
			t.Errorf("P1.1: ValidRow of %d values: %v", n, got)
		}
	}
	for _, v := range broken() {
		for at := range 16 {
			row := make([]api.Value, 16)
			row[at] = v
			if ValidRow(row) {
				t.Errorf("P1.1: ValidRow accepts %v at %d", v, at)
			}
		}
	}
}

// P1.2
func TestCompare(t *testing.T) {
	values := ascending()
	for i, a := range values {
		for k, b := range values {
			if got, want := Compare(a, b), sign(i-k); got != want {
				t.Errorf("P1.2: Compare(%v, %v) = %d, want %d", a, b, got, want)
			}
		}
	}
	for _, a := range append(values, broken()...) {
		for _, b := range broken() {
			if got, want := Compare(a, b), Compare(a, api.Value{}); got != want {
				t.Errorf("P1.2: Compare(%v, %v) = %d, want %d", a, b, got, want)
			}
			if got, want := Compare(b, a), Compare(api.Value{}, a); got != want {
				t.Errorf("P1.2: Compare(%v, %v) = %d, want %d", b, a, got, want)
			}
		}
	}
}

func sign(n int) int {
	switch {
	case n < 0:
		return -1
	case n > 0:
		return 1
	}
	return 0
}

// P1.2
func TestCompareRows(t *testing.T) {
	for _, x := range []struct {
		a, b []api.Value
		want int
	}{
		{nil, nil, 0},
		{nil, []api.Value{}, 0},
		{nil, []api.Value{{}}, -1},
		{[]api.Value{{}}, nil, 1},
		{[]api.Value{integer(1)}, []api.Value{integer(1), {}}, -1},
		{[]api.Value{integer(2)}, []api.Value{integer(1), integer(9)}, 1},
		{[]api.Value{integer(1), text("z")}, []api.Value{integer(2), {}}, -1},
		{[]api.Value{integer(1), text("b")}, []api.Value{integer(1), text("a")}, 1},
		{[]api.Value{integer(1), text("a")}, []api.Value{integer(1), text("a")}, 0},
		{[]api.Value{{Kind: 7}, integer(1)}, []api.Value{{}, integer(1)}, 0},
		{[]api.Value{{Kind: 7}}, []api.Value{integer(-5)}, -1},
		{make([]api.Value, 100), make([]api.Value, 101), -1},
		{make([]api.Value, 100), make([]api.Value, 100), 0},
	} {
		if got := CompareRows(x.a, x.b); got != x.want {
			t.Errorf("P1.2: CompareRows(%v, %v) = %d, want %d", x.a, x.b, got, x.want)
		}
		if got := CompareRows(x.b, x.a); got != -x.want {
			t.Errorf("P1.2: CompareRows(%v, %v) = %d, want %d", x.b, x.a, got, -x.want)
		}
	}
}

// Rule 3: arguments are not modified.
func TestArgumentsStay(t *testing.T) {
	row := append(ascending(), broken()...)
	before := slices.Clone(row)
	ValidRow(row)
	CompareRows(row, row)
	EncodeRow(row)
	if !slices.Equal(row, before) {
		t.Error("rule 3: the row has been modified")
	}
}
