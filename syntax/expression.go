package syntax

import (
	"erasure/api"
	"erasure/expr"
)

// reference is a column that an expression names.
type reference struct {
	name  api.Token
	right bool
}

// formula is an expression whose references have not been looked up. The column of a term is the number of a reference; references stand in the order of the source, terms do not always.
type formula struct {
	terms      []api.Term
	references []reference
}

// formula reads an expression that is not part of another one.
func (p *parser) formula() formula {
	p.references = nil
	terms := p.expression().appendTo(nil)
	return formula{terms, p.references}
}

// node is a term with its operands.
type node struct {
	term     api.Term
	operands []node
}

func operation(op int, operands ...node) node {
	return node{api.Term{Op: op}, operands}
}

func constant(v api.Value) node {
	return node{term: api.Term{Op: api.OpConst, Value: v}}
}

func integer(n int64) node {
	return constant(api.Value{Kind: api.KindInt, Int: n})
}

// appendTo appends the terms of a node in preorder.
func (n node) appendTo(terms []api.Term) []api.Term {
	terms = append(terms, n.term)
	for _, operand := range n.operands {
		terms = operand.appendTo(terms)
	}
	return terms
}

func (p *parser) expression() node { return p.grouped(p.conjunction, api.OpOr) }

func (p *parser) conjunction() node { return p.grouped(p.comparison, api.OpAnd) }

func (p *parser) comparison() node {
	a := p.sum()
	switch {
	case p.accept("="):
		return operation(api.OpEqual, a, p.sum())
	case p.accept("<"):
		return operation(api.OpLess, a, p.sum())
	case p.accept("<="):
		return operation(api.OpNot, operation(api.OpLess, p.sum(), a))
	default:
		return a
	}
}

func (p *parser) sum() node {
	return p.grouped(p.product, api.OpAdd, api.OpSubtract, api.OpConcat)
}

func (p *parser) product() node {
	return p.grouped(p.factor, api.OpMultiply, api.OpDivide)
}

// grouped reads operands with some of the operators between them, which are grouped from left to right.
func (p *parser) grouped(operand func() node, operators ...int) node {
	result := operand()
	for {
		op, found := p.operator(operators)
		if !found {
			return result
		}
		result = operation(op, result, operand())
	}
}

// operator reads one of the operators, if it follows.
func (p *parser) operator(operators []int) (int, bool) {
	for _, op := range operators {
		if p.accept(operatorWords[op]) {
			return op, true
		}
	}
	return 0, false
}

func (p *parser) factor() node {
	switch {
	case p.accept("-"):
		if p.ahead(0).Kind == api.TokenNumber {
			return integer(-p.token(api.TokenNumber).Int)
		}
		return operation(api.OpNegate, p.factor())
	case p.accept("not"):
		return operation(api.OpNot, p.factor())
	default:
		return p.atom()
	}
}

func (p *parser) atom() node {
	switch p.ahead(0).Kind {
	case api.TokenNumber:
		return integer(p.token(api.TokenNumber).Int)
	case api.TokenText:
		return constant(api.Value{Kind: api.KindText, Text: p.token(api.TokenText).Text})
	}
	if p.accept("(") {
		inner := p.expression()
		p.expect(")")
		return inner
	}
	for op, word := range operatorWords {
		if isFunction(op) && p.accept(word, "(") {
			return p.function(op)
		}
	}
	return p.reference()
}

// function reads what follows the name of a function and the parenthesis.
func (p *parser) function(op int) node {
	operands := []node{p.expression()}
	for len(operands) < expr.Arity(op) {
		p.expect(",")
		operands = append(operands, p.expression())
	}
	p.expect(")")
	return operation(op, operands...)
}

func (p *parser) reference() node {
	right := p.accept("right", ".")
	if !right {
		p.accept("left", ".")
	}
	number := len(p.references)
	p.references = append(p.references, reference{p.name(), right})
	return node{term: api.Term{Op: api.OpColumn, Column: number}}
}
