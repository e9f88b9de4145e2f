package expr

import (
	"slices"
	"strings"

	"erasure/api"
	"erasure/value"
)

// Substitute returns e with each column replaced by its item, or the first of the errors.
func Substitute(e []api.Term, items [][]api.Term) ([]api.Term, api.Errno) {
	if !Valid(e) || slices.ContainsFunc(items, isNotValid) {
		return nil, api.ErrInvalid
	}
	var result []api.Term
	for _, term := range e {
		switch {
		case term.Op != api.OpColumn:
			result = append(result, term)
		case term.Column >= len(items):
			return nil, api.ErrName
		default:
			result = append(result, items[term.Column]...)
		}
	}
	if !Valid(result) {
		return nil, api.ErrFull
	}
	return result, api.OK
}

func isNotValid(e []api.Term) bool { return !Valid(e) }

// Fold returns e with the operators replaced whose values do not depend on the row; nothing if e is not valid.
func Fold(e []api.Term) []api.Term {
	if !Valid(e) {
		return nil
	}
	folded, _ := reduce(e, 0, func(term api.Term, operands [maxArity][]api.Term) []api.Term {
		whole := []api.Term{term}
		for _, operand := range operands {
			whole = append(whole, operand...)
		}
		return foldOperator(whole)
	})
	return folded
}

// foldOperator returns the constant with the value of e if all its operands are constants and the value is not null, and e otherwise.
func foldOperator(e []api.Term) []api.Term {
	if slices.ContainsFunc(e[1:], isNotConstant) {
		return e
	}
	// A column alone has no operands; without a row its value is null, so that it stays.
	v := Eval(e, nil)
	if isNull(v) {
		return e
	}
	return []api.Term{{Op: api.OpConst, Value: v}}
}

func isNotConstant(term api.Term) bool { return term.Op != api.OpConst }

// Format returns the text of e with the names of the columns; the empty string if e is not valid.
func Format(e []api.Term, names []string) string {
	if !Valid(e) {
		return ""
	}
	text, _ := reduce(e, 0, func(term api.Term, operands [maxArity]string) string {
		switch term.Op {
		case api.OpConst:
			return value.Format(term.Value)
		case api.OpColumn:
			if term.Column >= len(names) {
				return "?"
			}
			return names[term.Column]
		default:
			return operators[term.Op].name + "(" + strings.Join(operands[:Arity(term.Op)], ", ") + ")"
		}
	})
	return text
}
