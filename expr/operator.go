package expr

import (
	"erasure/api"
)

const maxArity = 3

// What an operator requires of an operand, beside the kinds of values.
const (
	sameType = -1 // the type of every other operand with this mark; as the type of the operator, that type
	anyType  = -2
)

type operator struct {
	name     string
	operands []int
	kind     int
}

// operators are the operators by their numbers. A constant and a column have no name, and their types do not depend on the operator.
var operators = [...]operator{
	api.OpConst:    {},
	api.OpColumn:   {},
	api.OpNegate:   {"negate", []int{api.KindInt}, api.KindInt},
	api.OpAdd:      {"add", []int{api.KindInt, api.KindInt}, api.KindInt},
	api.OpSubtract: {"subtract", []int{api.KindInt, api.KindInt}, api.KindInt},
	api.OpMultiply: {"multiply", []int{api.KindInt, api.KindInt}, api.KindInt},
	api.OpDivide:   {"divide", []int{api.KindInt, api.KindInt}, api.KindInt},
	api.OpConcat:   {"concat", []int{api.KindText, api.KindText}, api.KindText},
	api.OpLength:   {"length", []int{api.KindText}, api.KindInt},
	api.OpPrefix:   {"prefix", []int{api.KindText, api.KindInt}, api.KindText},
	api.OpEqual:    {"equal", []int{sameType, sameType}, api.KindInt},
	api.OpLess:     {"less", []int{sameType, sameType}, api.KindInt},
	api.OpNot:      {"not", []int{api.KindInt}, api.KindInt},
	api.OpAnd:      {"and", []int{api.KindInt, api.KindInt}, api.KindInt},
	api.OpOr:       {"or", []int{api.KindInt, api.KindInt}, api.KindInt},
	api.OpIsNull:   {"isnull", []int{anyType}, api.KindInt},
	api.OpCoalesce: {"coalesce", []int{sameType, sameType}, sameType},
	api.OpIf:       {"if", []int{api.KindInt, sameType, sameType}, sameType},
}

// Arity returns the number of operands of an operator, and -1 for another number.
func Arity(op int) int {
	if op < api.OpConst || op >= len(operators) {
		return -1
	}
	return len(operators[op].operands)
}

// operatorType returns the type of an operator whose operands have the given types, or KindNull if it does not take them. The operator is neither a constant nor a column.
func operatorType(op int, types [maxArity]int) int {
	same := api.KindNull
	for i, required := range operators[op].operands {
		switch required {
		case anyType:
		case sameType:
			if same != api.KindNull && same != types[i] {
				return api.KindNull
			}
			same = types[i]
		default:
			if types[i] != required {
				return api.KindNull
			}
		}
	}
	if operators[op].kind == sameType {
		return same
	}
	return operators[op].kind
}
