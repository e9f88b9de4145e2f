package bag

import (
	"slices"
	"testing"

	"erasure/api"
	"erasure/value"
)

// checkResult checks a bag and an error of a call; next to an error there is no bag.
func checkResult(t *testing.T, what string, got []api.Entry, errno api.Errno, want []api.Entry, wantErrno api.Errno) {
	t.Helper()
	if errno != wantErrno || !same(got, want) {
		t.Errorf("%s: %v, %d, want %v, %d", what, clip(got), errno, clip(want), wantErrno)
	}
	if errno == api.OK && !Valid(got) {
		t.Errorf("%s: %v is not a valid bag", what, clip(got))
	}
}

// clip returns the beginning of a list, for messages.
func clip(l []api.Entry) []api.Entry { return l[:min(len(l), 20)] }

// P6.2
func TestNormalize(t *testing.T) {
	limit := int64(api.MaxCount)
	for _, x := range []struct{ l, want []api.Entry }{
		{nil, nil},
		{[]api.Entry{}, nil},
		{[]api.Entry{entry(2, text("a")), entry(1, text("b")), entry(-2, text("a"))}, []api.Entry{entry(1, text("b"))}}, // example 1
		{[]api.Entry{one(1, 0)}, nil},
		{[]api.Entry{one(2, 0), one(1, 0), one(2, 0)}, nil},
		{[]api.Entry{one(3, 1), one(1, 2), one(2, 0), one(3, 4), one(0, -1)}, []api.Entry{one(0, -1), one(1, 2), one(3, 5)}},
		{[]api.Entry{entry(1), {Row: nil, Count: 2}}, []api.Entry{entry(3)}},
		{[]api.Entry{entry(1, text("a")), entry(2, text("a"), api.Value{}), entry(3, text("a\x00")), entry(4), entry(5, api.Value{})},
			[]api.Entry{entry(4), entry(5, api.Value{}), entry(1, text("a")), entry(2, text("a"), api.Value{}), entry(3, text("a\x00"))}},
		{[]api.Entry{entry(1, text("1")), one(1, 2), entry(3, text(""))}, []api.Entry{one(1, 2), entry(3, text("")), entry(1, text("1"))}},
		{[]api.Entry{one(1, limit), one(1, limit), one(1, -limit)}, []api.Entry{one(1, limit)}},
		{[]api.Entry{one(1, -limit), one(1, -1), one(1, 1)}, []api.Entry{one(1, -limit)}},
		{slices.Concat(numbers(0, api.MaxRows+7, 1), numbers(5, 7, -1)), slices.Concat(numbers(0, 5, 1), numbers(12, api.MaxRows-5, 1))},
		{slices.Concat(numbers(0, 3*api.MaxRows, limit), numbers(0, 3*api.MaxRows, -limit)), nil},
		{slices.Repeat([]api.Entry{one(1, 2), one(0, -1)}, 1<<17), []api.Entry{one(0, -1<<17), one(1, limit)}},
	} {
		got, errno := Normalize(x.l)
		checkResult(t, "P6.2", got, errno, x.want, api.OK)
	}
}

// P6.2, with the order of its errors
func TestNormalizeErrors(t *testing.T) {
	limit := int64(api.MaxCount)
	tooMany := numbers(0, api.MaxRows+1, 1)
	for _, x := range []struct {
		l    []api.Entry
		want api.Errno
	}{
		{tooMany, api.ErrFull},
		{numbers(0, 10*api.MaxRows, -limit), api.ErrFull},
		{[]api.Entry{one(1, limit), one(1, 1)}, api.ErrOverflow},
		{[]api.Entry{one(1, -limit), one(2, 1), one(1, -1)}, api.ErrOverflow},
		{slices.Repeat([]api.Entry{one(1, limit)}, 1<<14), api.ErrOverflow}, // the sum is 1 << 32
		{slices.Repeat([]api.Entry{one(1, -limit)}, 1<<14), api.ErrOverflow},
		{append(numbers(0, api.MaxRows, 1), one(5, limit)), api.ErrOverflow},
		{slices.Concat(tooMany, []api.Entry{one(5, limit)}), api.ErrFull},
		{slices.Concat([]api.Entry{one(5, -limit), one(5, -limit)}, tooMany), api.ErrFull},
		{slices.Concat(numbers(0, api.MaxRows, 1), []api.Entry{one(api.MaxRows, limit), one(api.MaxRows, limit)}), api.ErrFull},
		{[]api.Entry{entry(0, api.Value{Kind: 3})}, api.ErrInvalid},
		{[]api.Entry{one(1, limit+1), one(1, -limit-1)}, api.ErrInvalid},
		{[]api.Entry{one(1, limit+1), one(1, -1)}, api.ErrInvalid},
	} {
		got, errno := Normalize(x.l)
		checkResult(t, "P6.2", got, errno, nil, x.want)
	}
	for _, e := range brokenEntries() {
		for _, l := range [][]api.Entry{
			{e}, {one(1, 1), e}, {e, one(1, 1)}, {e, e},
			{one(1, limit), one(1, limit), e}, {e, one(1, limit), one(1, limit)},
			slices.Concat(tooMany, []api.Entry{e}), slices.Concat([]api.Entry{e}, tooMany, []api.Entry{one(5, limit)}),
		} {
			got, errno := Normalize(l)
			checkResult(t, "P6.2", got, errno, nil, api.ErrInvalid)
		}
		if !value.ValidRow(e.Row) {
			got, errno := Normalize([]api.Entry{{Row: e.Row}})
			checkResult(t, "P6.2: without a multiplicity", got, errno, nil, api.ErrInvalid)
		}
	}
}

// P6.3
func TestAddAndSubtract(t *testing.T) {
	limit := int64(api.MaxCount)
	a, b := []api.Entry{one(1, 1), one(2, 3), one(4, 2)}, []api.Entry{one(0, 7), one(1, -1), one(2, 1), one(4, 2)}
	half := int64(api.MaxRows / 2)
	for _, x := range []struct{ a, b, sum, difference []api.Entry }{
		{nil, nil, nil, nil},
		{a, nil, a, a},
		{nil, b, b, []api.Entry{one(0, -7), one(1, 1), one(2, -1), one(4, -2)}},
		{a, b, []api.Entry{one(0, 7), one(2, 4), one(4, 4)}, []api.Entry{one(0, -7), one(1, 2), one(2, 2)}},
		{[]api.Entry{entry(1, text("a"))}, []api.Entry{entry(1, text("b"))}, // example 2
			[]api.Entry{entry(1, text("a")), entry(1, text("b"))}, []api.Entry{entry(1, text("a")), entry(-1, text("b"))}},
		{[]api.Entry{one(1, limit-1), one(2, 1-limit)}, []api.Entry{one(1, 1), one(2, -1)},
			[]api.Entry{one(1, limit), one(2, -limit)}, []api.Entry{one(1, limit-2), one(2, 2-limit)}},
		{nil, []api.Entry{one(1, limit), one(2, -limit)}, []api.Entry{one(1, limit), one(2, -limit)}, []api.Entry{one(1, -limit), one(2, limit)}},
		{numbers(0, int(half), 1), numbers(half, int(half), 1),
			numbers(0, api.MaxRows, 1), slices.Concat(numbers(0, int(half), 1), numbers(half, int(half), -1))},
		{numbers(0, api.MaxRows, 3), numbers(0, api.MaxRows, 2), numbers(0, api.MaxRows, 5), numbers(0, api.MaxRows, 1)},
	} {
		got, errno := Add(x.a, x.b)
		checkResult(t, "P6.3: Add", got, errno, x.sum, api.OK)
		got, errno = Subtract(x.a, x.b)
		checkResult(t, "P6.3: Subtract", got, errno, x.difference, api.OK)
	}
}

// P6.3: what cancels does not count, even if both bags together have more than MaxRows rows.
func TestAddCancels(t *testing.T) {
	a := numbers(0, api.MaxRows, 1)
	minus, plus := append(numbers(0, 1, -1), one(api.MaxNumber, 9)), append(numbers(0, 1, 1), one(api.MaxNumber, -9))
	want := append(numbers(1, api.MaxRows-1, 1), one(api.MaxNumber, 9))
	got, errno := Add(a, minus)
	checkResult(t, "P6.3: Add", got, errno, want, api.OK)
	got, errno = Subtract(a, plus)
	checkResult(t, "P6.3: Subtract", got, errno, want, api.OK)
}

// P6.3, with the order of its errors
func TestAddErrors(t *testing.T) {
	limit := int64(api.MaxCount)
	full := numbers(0, api.MaxRows, limit)
	for _, x := range []struct {
		a, b            []api.Entry
		sum, difference api.Errno
	}{
		{full, []api.Entry{one(-1, 1)}, api.ErrFull, api.ErrFull},
		{[]api.Entry{one(-1, 1)}, full, api.ErrFull, api.ErrFull},
		{full, []api.Entry{one(-1, 1), one(5, 1), one(6, -1)}, api.ErrFull, api.ErrFull},
		{full, []api.Entry{one(5, 1), one(6, -1)}, api.ErrOverflow, api.ErrOverflow},
		{[]api.Entry{one(1, 1)}, []api.Entry{one(1, limit)}, api.ErrOverflow, api.OK},
		{[]api.Entry{one(1, limit)}, []api.Entry{one(1, limit)}, api.ErrOverflow, api.OK},
		{[]api.Entry{one(1, limit)}, []api.Entry{one(1, -limit)}, api.OK, api.ErrOverflow},
		{[]api.Entry{one(1, -limit)}, []api.Entry{one(1, 1)}, api.OK, api.ErrOverflow},
		{[]api.Entry{one(1, -1)}, []api.Entry{one(1, -limit)}, api.ErrOverflow, api.OK},
	} {
		if got, errno := Add(x.a, x.b); errno != x.sum || errno != api.OK && len(got) != 0 {
			t.Errorf("P6.3: Add(%v, %v) = %v, %d, want %d", clip(x.a), clip(x.b), clip(got), errno, x.sum)
		}
		if got, errno := Subtract(x.a, x.b); errno != x.difference || errno != api.OK && len(got) != 0 {
			t.Errorf("P6.3: Subtract(%v, %v) = %v, %d, want %d", clip(x.a), clip(x.b), clip(got), errno, x.difference)
		}
	}
	for _, broken := range brokenBags() {
		for _, valid := range [][]api.Entry{nil, {one(1, 1)}, full, broken} {
			for _, x := range [][2][]api.Entry{{broken, valid}, {valid, broken}} {
				got, errno := Add(x[0], x[1])
				checkResult(t, "P6.3: Add", got, errno, nil, api.ErrInvalid)
				got, errno = Subtract(x[0], x[1])
				checkResult(t, "P6.3: Subtract", got, errno, nil, api.ErrInvalid)
			}
		}
	}
}

// Rule 3
func TestSumsLeaveArguments(t *testing.T) {
	normalize := func(a, _ []api.Entry) []api.Entry {
		b, _ := Normalize(a)
		return b
	}
	add := func(a, b []api.Entry) []api.Entry {
		c, _ := Add(a, b)
		return c
	}
	subtract := func(a, b []api.Entry) []api.Entry {
		c, _ := Subtract(a, b)
		return c
	}
	list := []api.Entry{one(2, 5), one(2, -3), entry(1, text("b"), text("c")), one(1, 0), entry(1, text("a")), entry(4)}
	a := []api.Entry{entry(1), one(1, 1), one(2, 3), entry(1, text("a"), api.Value{})}
	b := []api.Entry{one(0, 7), one(1, -1), one(2, 1), entry(1, text("a"))}
	checkOwn(t, "Normalize", normalize, list, nil)
	checkOwn(t, "Normalize", normalize, a, nil)
	for _, x := range [][2][]api.Entry{{a, b}, {b, a}, {a, nil}, {nil, a}, {a, a}, {a, list}} {
		checkOwn(t, "Add", add, x[0], x[1])
		checkOwn(t, "Subtract", subtract, x[0], x[1])
	}
}
