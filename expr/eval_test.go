package expr

import (
	"math/big"
	"slices"
	"strings"
	"testing"

	"erasure/api"
)

// samples returns values to which operators are applied, and one that is not valid, which counts as null.
func samples() []api.Value {
	values := []api.Value{{}, {Kind: api.KindInt, Int: 1, Text: "a"}}
	for _, i := range []int64{-api.MaxNumber, -api.MaxNumber + 1, -65537, -65536, -7, -2, -1, 0, 1, 2, 3, 7, 31, 32, 33, 65535, 65536, 65537, 1 << 31, api.MaxNumber - 1, api.MaxNumber} {
		values = append(values, number(i))
	}
	for _, x := range []string{"", "\x00", "a", "ab", "b", "\xff", strings.Repeat("x", 16), strings.Repeat("x", 17), strings.Repeat("y", api.MaxText)} {
		values = append(values, textOf(x))
	}
	return values
}

// exact returns the integer as a value, or null if it is beyond the limits.
func exact(i *big.Int) api.Value {
	if i.CmpAbs(big.NewInt(api.MaxNumber)) > 0 {
		return api.Value{}
	}
	return number(i.Int64())
}

func oneIf(b bool) api.Value {
	if b {
		return number(1)
	}
	return number(0)
}

// strict is the value of an operator whose operands have kinds, which are written as i and t.
func strict(o int, kinds string, a, b api.Value) api.Value {
	x, y := big.NewInt(a.Int), big.NewInt(b.Int)
	switch {
	case o == api.OpNegate && kinds == "i":
		return exact(x.Neg(x))
	case o == api.OpNot && kinds == "i":
		return oneIf(a.Int == 0)
	case o == api.OpLength && kinds == "t":
		return number(int64(len(a.Text)))
	case o == api.OpAdd && kinds == "ii":
		return exact(x.Add(x, y))
	case o == api.OpSubtract && kinds == "ii":
		return exact(x.Sub(x, y))
	case o == api.OpMultiply && kinds == "ii":
		return exact(x.Mul(x, y))
	case o == api.OpDivide && kinds == "ii" && b.Int != 0:
		rest := new(big.Int).Mod(x, y) // not negative, but the rest of a division that rounds down has the sign of y
		if rest.Sign() != 0 && y.Sign() < 0 {
			rest.Add(rest, y)
		}
		return exact(x.Quo(x.Sub(x, rest), y))
	case o == api.OpConcat && kinds == "tt" && len(a.Text)+len(b.Text) <= api.MaxText:
		return textOf(a.Text + b.Text)
	case o == api.OpPrefix && kinds == "ti" && b.Int >= 0:
		for int64(len(a.Text)) > b.Int {
			a.Text = a.Text[:len(a.Text)-1]
		}
		return a
	case o == api.OpEqual && (kinds == "ii" || kinds == "tt"):
		return oneIf(a.Int == b.Int && a.Text == b.Text)
	case o == api.OpLess && (kinds == "ii" || kinds == "tt"):
		return oneIf(a.Int < b.Int || a.Text < b.Text)
	}
	return api.Value{}
}

// applied is the value of an operator for operands, by the definitions of the chapter.
func applied(o int, x []api.Value) api.Value {
	kinds := ""
	falses, trues := 0, 0
	for i := range x {
		if x[i].Kind == api.KindInt && x[i].Text != "" {
			x[i] = api.Value{}
		}
		kinds += "-it"[x[i].Kind : x[i].Kind+1]
		if x[i].Kind == api.KindInt && x[i].Int == 0 {
			falses++
		} else if x[i].Kind == api.KindInt {
			trues++
		}
	}
	switch {
	case o == api.OpAnd && falses > 0, o == api.OpOr && trues == 0 && falses == 2:
		return number(0)
	case o == api.OpAnd && trues == 2, o == api.OpOr && trues > 0:
		return number(1)
	case o == api.OpIsNull:
		return oneIf(kinds == "-")
	case o == api.OpCoalesce && kinds[0] != '-':
		return x[0]
	case o == api.OpCoalesce:
		return x[1]
	case o == api.OpIf && kinds[0] == 'i' && x[0].Int != 0:
		return x[1]
	case o == api.OpIf:
		return x[2]
	}
	return strict(o, kinds, x[0], x[len(x)-1])
}

// tuples yields all lists of k values.
func tuples(values []api.Value, k int) func(yield func([]api.Value) bool) {
	return func(yield func([]api.Value) bool) {
		total := 1
		for range k {
			total *= len(values)
		}
		for code := range total {
			var tuple []api.Value
			for range k {
				tuple = append(tuple, values[code%len(values)])
				code /= len(values)
			}
			if !yield(tuple) {
				return
			}
		}
	}
}

// P3.3: every operator for all tuples of samples, from a row and as constants.
func TestEvalOperators(t *testing.T) {
	for o := api.OpNegate; o <= api.OpIf; o++ {
		columns := [][]api.Term{col(0), col(1), col(2)}[:arities[o]]
		for row := range tuples(samples(), arities[o]) {
			want := applied(o, slices.Clone(row))
			if got := Eval(op(o, columns...), row); got != want {
				t.Fatalf("P3.3: the operator %d is %v for %v, want %v", o, got, row, want)
			}
			var constants [][]api.Term
			for _, v := range row {
				constants = append(constants, c(v))
			}
			if e := op(o, constants...); Valid(e) && Eval(e, nil) != want {
				t.Fatalf("P3.3: Eval(%v) = %v, want %v", e, Eval(e, nil), want)
			}
		}
	}
}

// P3.3: columns, constants, nesting, and the examples of the chapter.
func TestEval(t *testing.T) {
	row := []api.Value{number(4), textOf("abc"), {}, {Kind: 9}, {Text: "a"}, number(api.MaxNumber + 1), textOf(strings.Repeat("a", api.MaxText+1))}
	for _, x := range []struct {
		e    []api.Term
		want api.Value
	}{
		{n(3), number(3)}, {s("\x00"), textOf("\x00")},
		{col(0), number(4)}, {col(1), textOf("abc")}, {col(2), null()}, {col(3), null()}, {col(4), null()}, {col(5), null()}, {col(6), null()}, {col(7), null()}, {col(maxInt), null()},
		{op(api.OpIsNull, col(5)), number(1)}, {op(api.OpIsNull, col(7)), number(1)}, {op(api.OpCoalesce, col(6), n(1)), number(1)}, {op(api.OpOr, col(9), n(1)), number(1)},
		{op(api.OpAdd, col(0), n(1)), number(5)}, {op(api.OpAdd, col(2), n(1)), null()}, {op(api.OpOr, col(2), n(1)), number(1)}, {op(api.OpAnd, col(2), n(0)), number(0)}, {op(api.OpDivide, n(-7), n(2)), number(-4)},
		{op(api.OpSubtract, op(api.OpSubtract, n(9), n(5)), op(api.OpSubtract, n(3), n(2))), number(3)},
		{op(api.OpSubtract, op(api.OpAdd, n(api.MaxNumber), n(1)), n(1)), null()},
		{op(api.OpLength, op(api.OpPrefix, op(api.OpConcat, s(strings.Repeat("a", 30)), s("bcd")), n(3))), null()},
		{op(api.OpIf, n(1), col(0), op(api.OpDivide, n(1), n(0))), number(4)}, {op(api.OpIf, op(api.OpIsNull, op(api.OpDivide, n(1), n(0))), s("x"), n(1)), textOf("x")},
		{op(api.OpNegate, op(api.OpIf, n(1), s("a"), n(1))), null()}, {op(api.OpEqual, op(api.OpCoalesce, col(1), n(1)), s("abc")), number(1)},
	} {
		if got := Eval(x.e, row); got != x.want {
			t.Errorf("P3.3: Eval(%v) = %v, want %v", x.e, got, x.want)
		}
		want := x.want.Kind == api.KindInt && x.want.Int != 0
		if got := Holds(x.e, row); got != want {
			t.Errorf("P3.3: Holds(%v) = %v", x.e, got)
		}
	}
	long := slices.Repeat([]api.Value{number(7)}, 1000)
	if got := Eval(col(999), long); got != number(7) {
		t.Errorf("P3.3: the last column of a long row is %v", got)
	}
}

// P3.3
func TestHolds(t *testing.T) {
	for _, v := range samples() {
		want := v.Kind == api.KindInt && v.Int != 0 && v.Text == ""
		if got := Holds(col(0), []api.Value{v}); got != want {
			t.Errorf("P3.3: Holds of the value %v is %v", v, got)
		}
	}
}

// P3.3
func TestEvalInvalid(t *testing.T) {
	row := []api.Value{number(1), number(1)}
	for _, e := range invalid() {
		if got := Eval(e, row); got != null() || Holds(e, row) {
			t.Errorf("P3.3: Eval(%v) = %v", e, got)
		}
	}
}
