package expr

import (
	"slices"
	"strings"
	"testing"

	"erasure/api"
)

// P3.5
func TestSubstitute(t *testing.T) {
	five, length := n(5), op(api.OpLength, col(2))
	for _, x := range []struct {
		e     []api.Term
		items [][]api.Term
		want  []api.Term
	}{
		{n(1), nil, n(1)}, {n(1), [][]api.Term{col(3)}, n(1)}, {col(0), [][]api.Term{length}, length}, {col(1), [][]api.Term{five, col(0)}, col(0)},
		{op(api.OpAdd, col(1), op(api.OpNegate, col(0))), [][]api.Term{five, length}, op(api.OpAdd, length, op(api.OpNegate, five))},
		{op(api.OpAdd, col(0), col(0)), [][]api.Term{col(1), n(2)}, op(api.OpAdd, col(1), col(1))},
		{op(api.OpIf, col(2), col(1), col(0)), [][]api.Term{s("a"), s("b"), op(api.OpNegate, s("c"))}, op(api.OpIf, op(api.OpNegate, s("c")), s("b"), s("a"))},
		{nested(8), [][]api.Term{nested(9)}, nested(16)}, {nested(16), [][]api.Term{col(1), nested(16)}, append(nested(16)[:15], col(1)...)},
		{op(api.OpAdd, col(0), col(1)), [][]api.Term{balanced(31), balanced(31)}, op(api.OpAdd, balanced(31), balanced(31))},
		{op(api.OpNot, col(0)), [][]api.Term{balanced(63)}, op(api.OpNot, balanced(63))},
	} {
		got, errno := Substitute(x.e, x.items)
		if !slices.Equal(got, x.want) || errno != api.OK {
			t.Errorf("P3.5: Substitute(%v, %v) = %v, %d, want %v", x.e, x.items, got, errno, x.want)
		}
	}
}

// P3.5: the errors and their order.
func TestSubstituteErrors(t *testing.T) {
	for _, x := range []struct {
		e     []api.Term
		items [][]api.Term
		want  api.Errno
	}{
		{col(0), nil, api.ErrName}, {col(1), [][]api.Term{n(1)}, api.ErrName}, {col(maxInt), [][]api.Term{n(1)}, api.ErrName},
		{op(api.OpAdd, col(0), col(1)), [][]api.Term{nested(16)}, api.ErrName}, {op(api.OpAdd, nested(15), col(1)), [][]api.Term{nested(16)}, api.ErrName},
		{n(1), [][]api.Term{nil}, api.ErrInvalid}, {col(0), [][]api.Term{n(1), nil}, api.ErrInvalid}, {col(5), [][]api.Term{n(1), {}}, api.ErrInvalid}, {nil, [][]api.Term{n(1)}, api.ErrInvalid},
		{nested(8), [][]api.Term{nested(10)}, api.ErrFull}, {nested(16), [][]api.Term{nested(2)}, api.ErrFull}, {op(api.OpNegate, col(0)), [][]api.Term{nested(16)}, api.ErrFull},
		{op(api.OpAdd, n(1), col(0)), [][]api.Term{balanced(63)}, api.ErrFull}, {op(api.OpAdd, col(0), col(0)), [][]api.Term{op(api.OpNot, balanced(31))}, api.ErrFull},
		{op(api.OpIf, col(0), col(0), col(0)), [][]api.Term{op(api.OpNot, balanced(63))}, api.ErrFull},
	} {
		got, errno := Substitute(x.e, x.items)
		if len(got) != 0 || errno != x.want {
			t.Errorf("P3.5: Substitute(%v, %v) = %v, %d, want error %d", x.e, x.items, got, errno, x.want)
		}
	}
	for _, e := range invalid() {
		for _, items := range [][][]api.Term{{n(1), n(1), n(1)}, {n(1), e}, {e}} {
			if got, errno := Substitute(e, items); len(got) != 0 || errno != api.ErrInvalid {
				t.Errorf("P3.5: Substitute(%v, %v) = %v, %d", e, items, got, errno)
			}
		}
		if got, errno := Substitute(n(1), [][]api.Term{n(1), e, n(1)}); len(got) != 0 || errno != api.ErrInvalid {
			t.Errorf("P3.5: Substitute with the item %v: %v, %d", e, got, errno)
		}
	}
}

// P3.6
func TestFold(t *testing.T) {
	zero := op(api.OpDivide, n(1), n(0))
	for _, x := range []struct{ e, want []api.Term }{
		{n(1), n(1)}, {s(""), s("")}, {col(0), col(0)}, {zero, zero}, {op(api.OpNegate, n(0)), n(0)},
		{op(api.OpAdd, n(2), op(api.OpMultiply, n(3), n(4))), n(14)},
		{op(api.OpAdd, col(0), op(api.OpMultiply, n(3), n(4))), op(api.OpAdd, col(0), n(12))},
		{op(api.OpAdd, op(api.OpAdd, col(0), n(1)), op(api.OpAdd, n(1), n(1))), op(api.OpAdd, op(api.OpAdd, col(0), n(1)), n(2))},
		{op(api.OpIsNull, col(0)), op(api.OpIsNull, col(0))}, {op(api.OpAnd, n(0), col(0)), op(api.OpAnd, n(0), col(0))}, {op(api.OpOr, n(1), zero), op(api.OpOr, n(1), zero)},
		{op(api.OpIsNull, zero), op(api.OpIsNull, zero)}, {op(api.OpIsNull, n(0)), n(0)}, {op(api.OpCoalesce, zero, n(3)), op(api.OpCoalesce, zero, n(3))}, {op(api.OpCoalesce, s("a"), n(3)), s("a")},
		{op(api.OpIf, n(1), s("x"), col(0)), op(api.OpIf, n(1), s("x"), col(0))}, {op(api.OpIf, op(api.OpLess, n(1), n(2)), s("x"), op(api.OpConcat, s("a"), s("b"))), s("x")},
		{op(api.OpIf, op(api.OpNot, n(5)), col(1), zero), op(api.OpIf, n(0), col(1), zero)}, {op(api.OpIf, s("a"), n(1), n(2)), n(2)},
		{op(api.OpNegate, s("a")), op(api.OpNegate, s("a"))}, {op(api.OpAdd, n(api.MaxNumber), n(1)), op(api.OpAdd, n(api.MaxNumber), n(1))},
		{op(api.OpConcat, s(strings.Repeat("a", api.MaxText)), op(api.OpPrefix, s("ab"), n(1))), op(api.OpConcat, s(strings.Repeat("a", api.MaxText)), s("a"))},
		{op(api.OpMultiply, n(0), op(api.OpNegate, op(api.OpLength, s("abc")))), n(0)}, {balanced(63), n(32)}, {nested(16), nested(16)},
	} {
		if got := Fold(x.e); !slices.Equal(got, x.want) {
			t.Errorf("P3.6: Fold(%v) = %v, want %v", x.e, got, x.want)
		}
	}
	for _, e := range invalid() {
		if got := Fold(e); len(got) != 0 {
			t.Errorf("P3.6: Fold(%v) = %v", e, got)
		}
	}
}

// P3.7
func TestFormat(t *testing.T) {
	names := []string{"x", "y", "", "a b"}
	for _, x := range []struct {
		e    []api.Term
		want string
	}{
		{n(-7), "-7"}, {n(api.MaxNumber), "4294967296"}, {s("a\"\n"), `"a\22\0a"`}, {s(""), `""`},
		{col(0), "x"}, {col(1), "y"}, {col(2), ""}, {col(3), "a b"}, {col(4), "?"}, {col(maxInt), "?"},
		{op(api.OpNegate, col(0)), "negate(x)"}, {op(api.OpAdd, col(0), n(1)), "add(x, 1)"}, {op(api.OpSubtract, col(0), n(1)), "subtract(x, 1)"},
		{op(api.OpMultiply, col(0), n(1)), "multiply(x, 1)"}, {op(api.OpDivide, col(0), n(1)), "divide(x, 1)"}, {op(api.OpConcat, col(0), n(1)), "concat(x, 1)"},
		{op(api.OpLength, col(0)), "length(x)"}, {op(api.OpPrefix, col(0), n(1)), "prefix(x, 1)"}, {op(api.OpEqual, col(0), n(1)), "equal(x, 1)"},
		{op(api.OpLess, col(0), n(1)), "less(x, 1)"}, {op(api.OpNot, col(0)), "not(x)"}, {op(api.OpAnd, col(0), n(1)), "and(x, 1)"}, {op(api.OpOr, col(0), n(1)), "or(x, 1)"},
		{op(api.OpIsNull, col(0)), "isnull(x)"}, {op(api.OpCoalesce, col(0), n(1)), "coalesce(x, 1)"}, {op(api.OpIf, col(0), col(1), col(2)), "if(x, y, )"},
		{op(api.OpIf, col(0), op(api.OpLess, col(1), col(0)), op(api.OpNot, col(9))), "if(x, less(y, x), not(?))"},
		{op(api.OpAdd, op(api.OpAdd, n(1), n(2)), op(api.OpAdd, n(3), n(4))), "add(add(1, 2), add(3, 4))"},
		{nested(16), strings.Repeat("negate(", 15) + "x" + strings.Repeat(")", 15)},
	} {
		if got := Format(x.e, names); got != x.want {
			t.Errorf("P3.7: Format(%v) = %s, want %s", x.e, got, x.want)
		}
	}
	if got := Format(op(api.OpAdd, col(0), col(1)), nil); got != "add(?, ?)" {
		t.Errorf("P3.7: Format without names: %s", got)
	}
	for _, e := range invalid() {
		if got := Format(e, names); got != "" {
			t.Errorf("P3.7: Format(%v) = %s", e, got)
		}
	}
}
