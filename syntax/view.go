package syntax

import (
	"erasure/api"
)

// query is a view that has been read, whose names have not been looked up.
type query struct {
	name       string
	kind       int
	distinct   bool
	left       api.Token
	right      api.Token // no token if there is one source
	items      []output
	aggregates []output
	pairs      [][2]api.Token
	where      formula // without terms if there is none
}

// output is an item or an aggregate.
type output struct {
	name     string
	function int     // of an aggregate
	formula  formula // without terms for AggCount
}

func (p *parser) view(name string) func(b *builder) {
	q := query{name: name, kind: p.choose(viewWords()...)}
	switch q.kind {
	case api.ViewSelect:
		q.distinct = p.acceptKeyword("distinct")
		p.items(&q)
		p.inputs(&q)
	case api.ViewGroup:
		if !p.acceptKeyword("with") {
			p.items(&q)
			p.expect("with")
		}
		p.aggregates(&q)
		p.inputs(&q)
	case api.ViewUnion:
		q.left = p.name()
		q.right = p.name()
	}
	return func(b *builder) { b.view(q) }
}

func (p *parser) items(q *query) {
	p.list(func() {
		item := output{name: p.word()}
		p.expect("=")
		item.formula = p.formula()
		q.items = append(q.items, item)
	})
}

func (p *parser) aggregates(q *query) {
	p.list(func() {
		aggregate := output{name: p.word()}
		p.expect("=")
		aggregate.function = p.choose(aggregateWords()...)
		if aggregate.function != api.AggCount {
			p.expect("(")
			aggregate.formula = p.formula()
			p.expect(")")
		}
		q.aggregates = append(q.aggregates, aggregate)
	})
}

func (p *parser) inputs(q *query) {
	p.expect("from")
	q.left = p.name()
	if p.accept("join") {
		q.right = p.name()
		if p.accept("on") {
			p.pairs(q)
		}
	}
	if p.accept("where") {
		q.where = p.formula()
	}
}

func (p *parser) pairs(q *query) {
	p.list(func() {
		left := p.name()
		p.expect("=")
		q.pairs = append(q.pairs, [2]api.Token{left, p.name()})
	})
}
