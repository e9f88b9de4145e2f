package expr

import (
	"slices"
	"testing"

	"erasure/api"
)

// maker makes expressions and rows; every maker with the same state makes the same ones.
type maker struct{ state uint64 }

func (m *maker) below(limit int) int {
	m.state = m.state*6364136223846793005 + 1442695040888963407
	return int((m.state >> 33) % uint64(limit))
}

func (m *maker) sample() api.Value {
	values := samples()
	return values[m.below(len(values))]
}

// expression makes an expression of at most the given depth over the columns 0 to 4.
func (m *maker) expression(depth int) []api.Term {
	o := 1 + m.below(18)
	if depth == 1 {
		o = 1 + m.below(2)
	}
	switch o {
	case api.OpConst:
		if m.below(2) == 0 {
			return n(int64(m.below(7)) - 3)
		}
		return s("abc"[:m.below(4)])
	case api.OpColumn:
		return col(m.below(5))
	}
	var operands [][]api.Term
	for range arities[o] {
		operands = append(operands, m.expression(depth-1))
	}
	return op(o, operands...)
}

// row makes a row of the given types, with nulls in between.
func (m *maker) row(types []int) []api.Value {
	var row []api.Value
	for len(row) < len(types) {
		v := m.sample()
		if v.Kind == types[len(row)] && v != samples()[1] || v.Kind == api.KindNull {
			row = append(row, v)
		}
	}
	return row
}

// value evaluates e by the definitions of the chapter, and returns the position behind it.
func (m *maker) value(e []api.Term, pos int, row []api.Value) (api.Value, int) {
	switch term := e[pos]; term.Op {
	case api.OpConst:
		return term.Value, pos + 1
	case api.OpColumn:
		if term.Column < len(row) {
			return row[term.Column], pos + 1
		}
		return api.Value{}, pos + 1
	}
	end := pos + 1
	operands := make([]api.Value, arities[e[pos].Op])
	for i := range operands {
		operands[i], end = m.value(e, end, row)
	}
	return applied(e[pos].Op, operands), end
}

// P3.3 and the consequences of the chapter, for many expressions.
func TestLaws(t *testing.T) {
	types := []int{api.KindInt, api.KindText, api.KindInt, api.KindText, api.KindInt}
	m := &maker{}
	typed := 0
	for range 60000 {
		e := m.expression(1 + m.below(5))
		if !Valid(e) {
			continue
		}
		row := m.row(types)
		v := Eval(e, row)
		if want, _ := m.value(e, 0, row); v != want {
			t.Fatalf("P3.3: Eval(%v, %v) = %v, want %v", e, row, v, want)
		}
		kind, errno := Type(e, types)
		if errno == api.OK {
			typed++
			if v.Kind != kind && v.Kind != api.KindNull {
				t.Fatalf("%v has the type %d, but the value %v for %v", e, kind, v, row)
			}
		}
		checkColumns(t, m, e, row, v)
		checkFold(t, e, row, types)
		checkSubstitute(t, m, e, row)
	}
	if typed < 5000 {
		t.Errorf("only %d expressions have a type", typed)
	}
}

// checkColumns checks that columns beside those of Columns do not matter.
func checkColumns(t *testing.T, m *maker, e []api.Term, row []api.Value, v api.Value) {
	t.Helper()
	other := slices.Clone(row)
	for i := range other {
		if !slices.Contains(Columns(e), i) {
			other[i] = m.sample()
		}
	}
	if got := Eval(e, other); got != v {
		t.Fatalf("%v has the columns %v, but the value %v for %v and %v for %v", e, Columns(e), v, row, got, other)
	}
}

// checkFold checks that Fold changes no value and no type, and that nothing is left to fold.
func checkFold(t *testing.T, e []api.Term, row []api.Value, types []int) {
	t.Helper()
	folded := Fold(e)
	if !Valid(folded) || len(folded) > len(e) || Eval(folded, row) != Eval(e, row) {
		t.Fatalf("P3.6: Fold(%v) = %v: the values are %v and %v", e, folded, Eval(e, row), Eval(folded, row))
	}
	kind, errno := Type(e, types)
	if got, gotErrno := Type(folded, types); errno == api.OK && (got != kind || gotErrno != api.OK) {
		t.Fatalf("P3.6: Fold(%v) = %v: the types are %d and %d", e, folded, kind, got)
	}
	if again := Fold(folded); !slices.Equal(again, folded) {
		t.Fatalf("P3.6: Fold(%v) = %v", folded, again)
	}
}

// checkSubstitute checks that substituting is evaluating twice.
func checkSubstitute(t *testing.T, m *maker, e []api.Term, row []api.Value) {
	t.Helper()
	var items [][]api.Term
	var values []api.Value
	for range 5 {
		item := m.expression(1 + m.below(2))
		items = append(items, item)
		values = append(values, Eval(item, row))
	}
	whole, errno := Substitute(e, items)
	if errno != api.OK {
		if errno != api.ErrFull {
			t.Fatalf("P3.5: Substitute(%v, %v): error %d", e, items, errno)
		}
		return
	}
	if got, want := Eval(whole, row), Eval(e, values); got != want {
		t.Fatalf("P3.5: Substitute(%v, %v) = %v: the values are %v and %v", e, items, whole, want, got)
	}
}

// Rule 3: arguments are not modified, and results are new.
func TestResultsAreNew(t *testing.T) {
	for _, e := range append(valid(), invalid()...) {
		kept := slices.Clone(e)
		items := [][]api.Term{slices.Clone(e), n(1)}
		row := []api.Value{number(1), {Kind: 9}}
		types := []int{api.KindText, api.KindInt}
		Eval(e, row)
		Type(e, types)
		Format(e, []string{"a"})
		substituted, _ := Substitute(col(0), items)
		same, _ := Substitute(e, [][]api.Term{col(0), col(1), col(2)})
		for _, result := range [][]api.Term{Fold(e), Fold(e[:min(len(e), 1)]), substituted, same} {
			for i := range result {
				result[i] = api.Term{Op: -1}
			}
		}
		if !slices.Equal(e, kept) || !slices.Equal(items[0], kept) || !slices.Equal(row, []api.Value{number(1), {Kind: 9}}) || !slices.Equal(types, []int{api.KindText, api.KindInt}) {
			t.Errorf("rule 3: an argument beside %v has changed", kept)
		}
	}
}
