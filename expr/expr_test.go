package expr

import (
	"slices"
	"strings"
	"testing"

	"erasure/api"
)

const (
	minInt = -1 << 63
	maxInt = 1<<63 - 1
)

// c is a constant, n and s are constants of a number and a text, col is a column, op an operator with operands.
func c(v api.Value) []api.Term { return []api.Term{{Op: api.OpConst, Value: v}} }
func n(i int64) []api.Term     { return c(number(i)) }
func s(x string) []api.Term    { return c(textOf(x)) }
func col(i int) []api.Term     { return []api.Term{{Op: api.OpColumn, Column: i}} }
func op(o int, operands ...[]api.Term) []api.Term {
	return append([]api.Term{{Op: o}}, slices.Concat(operands...)...)
}

// nested is an expression of the given depth: a column under negations.
func nested(depth int) []api.Term {
	e := col(0)
	for range depth - 1 {
		e = op(api.OpNegate, e)
	}
	return e
}

// balanced is a sum of so many terms, which is an odd number, with the least depth.
func balanced(terms int) []api.Term {
	if terms == 1 {
		return n(1)
	}
	left := (terms - 1) / 2
	if left%2 == 0 {
		left--
	}
	return op(api.OpAdd, balanced(left), balanced(terms-1-left))
}

// valid returns expressions that are valid.
func valid() [][]api.Term {
	return [][]api.Term{
		n(0), n(api.MaxNumber), n(-api.MaxNumber), s(""), s("a"), s(strings.Repeat("\x00", api.MaxText)), col(0), col(7), col(maxInt),
		op(api.OpNegate, s("a")), op(api.OpIf, col(0), s("a"), n(1)), op(api.OpAdd, col(1), op(api.OpLength, col(2))),
		op(api.OpAdd, op(api.OpLength, col(2)), col(1)), op(api.OpIf, nested(15), nested(15), nested(15)),
		nested(api.MaxNest), op(api.OpAdd, nested(15), n(1)), op(api.OpAdd, n(1), nested(15)),
		balanced(63), op(api.OpNot, balanced(63)), op(api.OpIf, balanced(21), balanced(21), balanced(21)),
	}
}

// invalid returns lists of terms that are no valid expressions.
func invalid() [][]api.Term {
	all := [][]api.Term{
		nil, {}, {{}}, c(api.Value{}), n(api.MaxNumber + 1), n(-api.MaxNumber - 1), s(strings.Repeat("a", api.MaxText+1)),
		c(api.Value{Kind: api.KindInt, Int: 1, Text: "a"}), c(api.Value{Kind: api.KindText, Int: 1}), c(api.Value{Kind: 3}), c(api.Value{Kind: -1}),
		col(-1), col(minInt), slices.Concat(n(1), n(1)), slices.Concat(col(0), op(api.OpNegate)),
		{{Op: api.OpConst, Value: number(1), Column: 1}}, {{Op: api.OpConst, Value: number(1), Column: -1}},
		{{Op: api.OpColumn, Value: number(1)}}, {{Op: api.OpColumn, Value: api.Value{Int: 1}}}, {{Op: api.OpColumn, Value: api.Value{Text: "a"}}}, {{Op: api.OpColumn, Value: api.Value{Kind: api.KindInt}}},
		nested(api.MaxNest + 1), nested(api.MaxTerms), nested(1000), op(api.OpAdd, n(1), nested(16)), op(api.OpAdd, nested(16), n(1)), op(api.OpIf, n(1), n(1), nested(16)),
		balanced(65), op(api.OpNegate, op(api.OpNot, balanced(63))), slices.Repeat(op(api.OpAdd), 40), slices.Repeat(op(api.OpIf), 64), slices.Repeat(op(api.OpIf), 100000), slices.Repeat(col(0), 64),
	}
	for _, o := range []int{minInt, -1, 0, 19, 20, 258, 1 << 32, maxInt} {
		all = append(all, op(o), op(o, n(1)), op(o, n(1), n(1)), op(api.OpNot, op(o)), op(api.OpAdd, n(1), op(o)))
	}
	for o := api.OpNegate; o <= api.OpIf; o++ {
		operands := slices.Repeat([][]api.Term{n(1)}, 4)
		for k := range 5 {
			if k != arities[o] {
				all = append(all, op(o, operands[:k]...))
			}
		}
		for _, broken := range []api.Term{{Op: o, Column: 1}, {Op: o, Column: -1}, {Op: o, Value: number(0)}, {Op: o, Value: api.Value{Int: 1}}, {Op: o, Value: textOf("")}, {Op: o, Value: api.Value{Text: "a"}}} {
			all = append(all, append([]api.Term{broken}, slices.Concat(operands[:arities[o]]...)...))
		}
	}
	return all
}

var arities = map[int]int{
	api.OpConst: 0, api.OpColumn: 0, api.OpNegate: 1, api.OpAdd: 2, api.OpSubtract: 2, api.OpMultiply: 2, api.OpDivide: 2, api.OpConcat: 2, api.OpLength: 1,
	api.OpPrefix: 2, api.OpEqual: 2, api.OpLess: 2, api.OpNot: 1, api.OpAnd: 2, api.OpOr: 2, api.OpIsNull: 1, api.OpCoalesce: 2, api.OpIf: 3,
}

// P3.1
func TestArity(t *testing.T) {
	for o, want := range arities {
		if got := Arity(o); got != want {
			t.Errorf("P3.1: Arity(%d) = %d, want %d", o, got, want)
		}
	}
	for _, o := range []int{minInt, -18, -1, 0, 19, 20, 255, 257, 1<<32 + 1, maxInt} {
		if got := Arity(o); got != -1 {
			t.Errorf("P3.1: Arity(%d) = %d, want -1", o, got)
		}
	}
}

// P3.1
func TestValid(t *testing.T) {
	for _, e := range valid() {
		if !Valid(e) {
			t.Errorf("P3.1: Valid(%v) is false", e)
		}
	}
	for o, k := range arities {
		if e := op(o, slices.Repeat([][]api.Term{col(0)}, k)...); o != api.OpConst && !Valid(e) {
			t.Errorf("P3.1: Valid(%v) is false", e)
		}
	}
	for _, e := range invalid() {
		if Valid(e) {
			t.Errorf("P3.1: Valid(%v) is true", e)
		}
	}
}

// P3.2: for every operator, the types that its operands may have, with its own type.
func TestTypeOfOperators(t *testing.T) {
	accepted := map[int]string{
		api.OpNegate: "i:i", api.OpAdd: "ii:i", api.OpSubtract: "ii:i", api.OpMultiply: "ii:i", api.OpDivide: "ii:i",
		api.OpConcat: "tt:t", api.OpLength: "t:i", api.OpPrefix: "ti:t", api.OpEqual: "ii:i tt:i", api.OpLess: "ii:i tt:i", api.OpNot: "i:i",
		api.OpAnd: "ii:i", api.OpOr: "ii:i", api.OpIsNull: "i:i t:i", api.OpCoalesce: "ii:i tt:t", api.OpIf: "iii:i itt:t",
	}
	types := []int{api.KindInt, api.KindText}
	constants := [][]api.Term{n(0), s("")}
	for o, list := range accepted {
		for code := range 1 << arities[o] {
			word := ""
			var columns, values [][]api.Term
			for i := range arities[o] {
				k := code >> i & 1
				word += "it"[k : k+1]
				columns = append(columns, col(k))
				values = append(values, constants[k])
			}
			want, wantErrno := api.KindNull, api.ErrType
			for _, x := range strings.Fields(list) {
				if strings.HasPrefix(x, word+":") {
					want, wantErrno = strings.IndexByte("-it", x[len(x)-1]), api.OK
				}
			}
			for _, e := range [][]api.Term{op(o, columns...), op(o, values...)} {
				if got, errno := Type(e, types); got != want || errno != wantErrno {
					t.Errorf("P3.2: Type(%s) = %d, %d, want %d, %d", Format(e, []string{"i", "t"}), got, errno, want, wantErrno)
				}
			}
		}
	}
}

// P3.2: the order of the errors.
func TestTypeErrors(t *testing.T) {
	i, tx := api.KindInt, api.KindText
	badType, badName := op(api.OpNegate, s("a")), col(9)
	for _, x := range []struct {
		e     []api.Term
		types []int
		want  api.Errno
	}{
		{n(1), nil, api.OK}, {col(0), nil, api.ErrName}, {col(0), []int{i}, api.OK}, {col(1), []int{i}, api.ErrName}, {col(1), []int{i, tx}, api.OK}, {col(maxInt), []int{i}, api.ErrName},
		{n(1), []int{api.KindNull}, api.ErrInvalid}, {n(1), []int{i, tx, 3}, api.ErrInvalid}, {n(1), []int{-1}, api.ErrInvalid}, {n(1), []int{maxInt}, api.ErrInvalid}, {n(1), []int{minInt, i}, api.ErrInvalid},
		{badType, []int{0}, api.ErrInvalid}, {badName, []int{0}, api.ErrInvalid}, {nil, []int{i}, api.ErrInvalid}, {op(api.OpAdd, badName), []int{i}, api.ErrInvalid}, {op(api.OpAdd, badType, nested(16)), []int{i}, api.ErrInvalid},
		{op(api.OpAdd, badType, badName), []int{i}, api.ErrType}, {op(api.OpAdd, badName, badType), []int{i}, api.ErrName},
		{op(api.OpAdd, s("a"), badName), []int{i}, api.ErrName}, {op(api.OpAdd, badName, s("a")), []int{i}, api.ErrName}, {op(api.OpAdd, s("a"), n(1)), []int{i}, api.ErrType},
		{op(api.OpIf, s("a"), n(1), badName), []int{i}, api.ErrName}, {op(api.OpIf, n(1), badType, badName), []int{i}, api.ErrType}, {op(api.OpIf, n(1), op(api.OpLength, badName), badType), []int{i}, api.ErrName},
		{op(api.OpIsNull, badType), nil, api.ErrType}, {op(api.OpIsNull, badName), nil, api.ErrName}, {op(api.OpNot, op(api.OpNot, op(api.OpNot, badType))), nil, api.ErrType},
		{op(api.OpEqual, op(api.OpConcat, s(""), s("")), op(api.OpLength, s(""))), nil, api.ErrType}, {op(api.OpDivide, n(1), n(0)), nil, api.OK},
	} {
		got, errno := Type(x.e, x.types)
		if errno != x.want || (got == api.KindNull) == (errno == api.OK) {
			t.Errorf("P3.2: Type(%v, %v) = %d, %d, want error %d", x.e, x.types, got, errno, x.want)
		}
	}
	for _, e := range invalid() {
		if got, errno := Type(e, []int{i, tx}); got != api.KindNull || errno != api.ErrInvalid {
			t.Errorf("P3.2: Type(%v) = %d, %d", e, got, errno)
		}
	}
}

// P3.4
func TestColumns(t *testing.T) {
	for _, x := range []struct {
		e    []api.Term
		want []int
	}{
		{n(1), nil}, {col(0), []int{0}}, {col(maxInt), []int{maxInt}},
		{op(api.OpAdd, col(3), col(1)), []int{1, 3}}, {op(api.OpAdd, col(2), col(2)), []int{2}},
		{op(api.OpIf, col(10), op(api.OpAdd, col(9), op(api.OpNegate, col(0))), op(api.OpAdd, col(9), col(10))), []int{0, 9, 10}},
		{op(api.OpMultiply, n(0), col(4)), []int{4}}, {op(api.OpAdd, balanced(31), op(api.OpNot, col(1))), []int{1}},
	} {
		if got := Columns(x.e); !slices.Equal(got, x.want) {
			t.Errorf("P3.4: Columns(%v) = %v, want %v", x.e, got, x.want)
		}
	}
	for _, e := range invalid() {
		if got := Columns(e); len(got) != 0 {
			t.Errorf("P3.4: Columns(%v) = %v", e, got)
		}
	}
}
