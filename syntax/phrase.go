package syntax

import (
	"erasure/api"
	"erasure/expr"
)

// expression writes a valid expression whose columns have names.
func (w *writer) expression(e []api.Term, names sides) {
	w.phrase(e, 0, names)
}

// phrase writes the expression that begins at pos and returns the position behind it.
func (w *writer) phrase(e []api.Term, pos int, names sides) int {
	term := e[pos]
	switch {
	case term.Op == api.OpConst:
		w.constant(term.Value)
		return pos + 1
	case term.Op == api.OpColumn:
		w.reference(term.Column, names)
		return pos + 1
	case isFunction(term.Op):
		return w.function(e, pos, names)
	}
	end := pos + 1
	if expr.Arity(term.Op) == 2 {
		end = w.operand(e, end, term.Op, names)
	}
	w.words(operatorWords[term.Op])
	return w.operand(e, end, term.Op, names)
}

// function writes the function that begins at pos and returns the position behind it.
func (w *writer) function(e []api.Term, pos int, names sides) int {
	op, end := e[pos].Op, pos+1
	w.words(operatorWords[op], "(")
	w.list(expr.Arity(op), func(int) { end = w.phrase(e, end, names) })
	w.words(")")
	return end
}

// operand writes the operand of an operator that begins at pos and returns the position behind it.
func (w *writer) operand(e []api.Term, pos, operator int, names sides) int {
	if standsAlone(e[pos], operator) {
		return w.phrase(e, pos, names)
	}
	w.words("(")
	end := w.phrase(e, pos, names)
	w.words(")")
	return end
}

// standsAlone reports whether the operand of an operator that begins with a term needs no parentheses.
func standsAlone(first api.Term, operator int) bool {
	if first.Op == api.OpConst && first.Value.Kind == api.KindInt {
		// The sign - and a number would be a constant.
		return first.Value.Int >= 0 && operator != api.OpNegate
	}
	return first.Op == api.OpConst || first.Op == api.OpColumn || isFunction(first.Op)
}

func (w *writer) constant(v api.Value) {
	switch {
	case v.Kind == api.KindText:
		w.tokens = append(w.tokens, api.Token{Kind: api.TokenText, Text: v.Text})
	case v.Int < 0:
		w.words("-")
		w.number(-v.Int)
	default:
		w.number(v.Int)
	}
}

func (w *writer) reference(column int, names sides) {
	name := names.name(column)
	switch {
	case names.isRight(column):
		w.words("right", ".")
	case name == operatorWords[api.OpNot]:
		// At the beginning of a factor this name is the operator.
		w.words("left", ".")
	}
	w.words(name)
}
