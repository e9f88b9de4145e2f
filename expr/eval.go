package expr

import (
	"erasure/api"
	"erasure/value"
)

func null() api.Value              { return api.Value{} }
func number(n int64) api.Value     { return api.Value{Kind: api.KindInt, Int: n} }
func textOf(s string) api.Value    { return api.Value{Kind: api.KindText, Text: s} }
func isNull(v api.Value) bool      { return v.Kind == api.KindNull }
func isTrue(v api.Value) bool      { return v.Kind == api.KindInt && v.Int != 0 }
func isFalse(v api.Value) bool     { return v == number(0) }
func isUndecided(v api.Value) bool { return v.Kind != api.KindInt }

func truth(b bool) api.Value {
	if b {
		return number(1)
	}
	return number(0)
}

// Eval returns the value of e for the row; null if e is not valid.
func Eval(e []api.Term, row []api.Value) api.Value {
	if !Valid(e) {
		return null()
	}
	v, _ := reduce(e, 0, func(term api.Term, operands [maxArity]api.Value) api.Value {
		switch term.Op {
		case api.OpConst:
			return term.Value
		case api.OpColumn:
			if term.Column >= len(row) {
				return null()
			}
			return value.Clean(row[term.Column])
		default:
			return apply(term.Op, operands)
		}
	})
	return v
}

// Holds reports whether the value of e for the row is an integer other than 0.
func Holds(e []api.Term, row []api.Value) bool {
	return isTrue(Eval(e, row))
}

// apply returns the value of an operator, which is neither a constant nor a column, for its operands.
func apply(op int, operands [maxArity]api.Value) api.Value {
	a, b := operands[0], operands[1]
	switch op {
	case api.OpAnd:
		return and(a, b)
	case api.OpOr:
		return or(a, b)
	case api.OpIsNull:
		return truth(isNull(a))
	case api.OpCoalesce:
		return choose(!isNull(a), a, b)
	case api.OpIf:
		return choose(isTrue(a), b, operands[2])
	}
	if !takes(op, operands) {
		return null()
	}
	// What is beyond the limits of a value is not valid.
	return value.Clean(compute(op, a, b))
}

func and(a, b api.Value) api.Value {
	switch {
	case isFalse(a) || isFalse(b):
		return truth(false)
	case isUndecided(a) || isUndecided(b):
		return null()
	default:
		return truth(true)
	}
}

func or(a, b api.Value) api.Value {
	switch {
	case isTrue(a) || isTrue(b):
		return truth(true)
	case isUndecided(a) || isUndecided(b):
		return null()
	default:
		return truth(false)
	}
}

func choose(first bool, a, b api.Value) api.Value {
	if first {
		return a
	}
	return b
}

// takes reports whether the operands of an operator are not null and of the types that it requires.
func takes(op int, operands [maxArity]api.Value) bool {
	var types [maxArity]int
	for i := range Arity(op) {
		if isNull(operands[i]) {
			return false
		}
		types[i] = operands[i].Kind
	}
	return operatorType(op, types) != api.KindNull
}

// compute returns the value of an operator that takes a and b, or a value that is not valid if it is beyond the limits.
func compute(op int, a, b api.Value) api.Value {
	switch op {
	case api.OpNegate:
		return number(-a.Int)
	case api.OpAdd:
		return number(a.Int + b.Int)
	case api.OpSubtract:
		return number(a.Int - b.Int)
	case api.OpMultiply:
		return multiply(a.Int, b.Int)
	case api.OpDivide:
		return divide(a.Int, b.Int)
	case api.OpConcat:
		return textOf(a.Text + b.Text)
	case api.OpLength:
		return number(int64(len(a.Text)))
	case api.OpPrefix:
		return prefix(a.Text, b.Int)
	case api.OpEqual:
		return truth(a == b)
	case api.OpLess:
		return truth(value.Compare(a, b) < 0)
	case api.OpNot:
		return truth(isFalse(a))
	default:
		return null()
	}
}

func multiply(a, b int64) api.Value {
	// A product of two numbers may not fit into 64 bits, so that its size is compared before it is computed.
	if a != 0 && max(b, -b) > api.MaxNumber/max(a, -a) {
		return null()
	}
	return number(a * b)
}

// divide rounds toward negative infinity.
func divide(a, b int64) api.Value {
	if b == 0 {
		return null()
	}
	quotient := a / b
	if a%b != 0 && (a < 0) != (b < 0) {
		quotient--
	}
	return number(quotient)
}

func prefix(s string, size int64) api.Value {
	if size < 0 {
		return null()
	}
	return textOf(s[:min(size, int64(len(s)))])
}
