package syntax

import (
	"erasure/api"
)

// declaration is a declaration that has been read.
type declaration struct {
	at   int // the offset of its first token
	kind int
	add  func(b *builder) // adds it behind the declarations of earlier kinds, and the earlier ones of its kind
}

func (p *parser) source() []declaration {
	var declarations []declaration
	for len(p.rest) > 0 {
		declarations = append(declarations, p.declaration())
		p.expect(";")
	}
	return declarations
}

func (p *parser) declaration() declaration {
	d := declaration{at: p.ahead(0).Pos}
	d.kind = p.choose(kindWords()...)
	name := p.word()
	switch d.kind {
	case api.StoreTable:
		d.add = p.table(name)
	case api.StoreView:
		d.add = p.view(name)
	case api.StoreIndex:
		d.add = p.index(name)
	case api.StoreSketch:
		d.add = p.sketch(name)
	case api.StoreCache:
		d.add = p.cache(name)
	case api.StoreRelease:
		d.add = p.release(name)
	case api.StoreStream:
		d.add = p.stream(name)
	case api.StoreBackup:
		d.add = p.backup(name)
	}
	return d
}

func (p *parser) table(name string) func(b *builder) {
	t := api.Table{Name: name}
	var owners [][]api.Token // of each column
	p.expect("(")
	p.list(func() {
		column, names := p.column()
		t.Columns = append(t.Columns, column)
		owners = append(owners, names)
	})
	p.expect(")")
	if p.accept("erase") {
		p.expect("row")
		t.Erase = api.EraseRow
	}
	if p.accept("retain") {
		t.Retain = p.number()
	}
	return func(b *builder) { b.table(t, owners) }
}

// column reads a column, and apart from it the names of its owners.
func (p *parser) column() (api.Column, []api.Token) {
	column := api.Column{Name: p.word()}
	var owners []api.Token
	column.Type = p.choose(typeWords()...)
	if p.accept("namespace") {
		column.Namespace = p.word()
	}
	if p.accept("references") {
		column.References = p.word()
	}
	if p.accept("personal") {
		if p.accept("all") {
			column.Joint = api.JointAll
		}
		p.expect("by")
		owners = p.owners()
	}
	if p.accept("duty") {
		column.Duty = p.number()
	}
	return column, owners
}

func (p *parser) owners() []api.Token {
	names := []api.Token{p.name()}
	for p.ahead(0).Kind == api.TokenName && !p.seesDuty() {
		names = append(names, p.name())
	}
	return names
}

// seesDuty reports whether the duty of a column follows, and not an owner with this name.
func (p *parser) seesDuty() bool {
	return isWord(p.ahead(0), "duty") && p.ahead(1).Kind == api.TokenNumber
}

// place is a column of a store that a declaration names.
type place struct {
	source api.Token
	column api.Token
}

func (p *parser) place() place {
	source := p.name()
	p.expect(".")
	return place{source, p.name()}
}

func (p *parser) index(name string) func(b *builder) {
	p.expect("on")
	on := p.place()
	return func(b *builder) {
		x := api.Index{Name: name, Source: on.source.Text, Column: b.place(on)}
		b.catalogue.Indexes = append(b.catalogue.Indexes, x)
	}
}

func (p *parser) sketch(name string) func(b *builder) {
	s := api.Sketch{Name: name, Kind: p.choose(sketchWords()...)}
	s.Width = p.number()
	s.Depth = p.number()
	p.expect("on")
	on := p.place()
	return func(b *builder) {
		s.Source, s.Column = on.source.Text, b.place(on)
		b.catalogue.Sketches = append(b.catalogue.Sketches, s)
	}
}

func (p *parser) cache(name string) func(b *builder) {
	p.expect("on")
	on := p.place()
	p.expect("for")
	days := p.number()
	return func(b *builder) {
		x := api.Cache{Name: name, Source: on.source.Text, Column: b.place(on), TTL: days}
		b.catalogue.Caches = append(b.catalogue.Caches, x)
	}
}

func (p *parser) release(name string) func(b *builder) {
	r := api.Release{Name: name}
	p.expect("of")
	r.Source = p.word()
	p.expect("above")
	r.Threshold = p.number()
	return func(b *builder) { b.catalogue.Releases = append(b.catalogue.Releases, r) }
}

func (p *parser) stream(name string) func(b *builder) {
	p.expect("of")
	s := api.Stream{Name: name, Table: p.word()}
	return func(b *builder) { b.catalogue.Streams = append(b.catalogue.Streams, s) }
}

func (p *parser) backup(name string) func(b *builder) {
	x := api.Backup{Name: name}
	p.expect("of")
	p.list(func() { x.Tables = append(x.Tables, p.word()) })
	p.expect("keep")
	x.Keep = p.number()
	return func(b *builder) { b.catalogue.Backups = append(b.catalogue.Backups, x) }
}
