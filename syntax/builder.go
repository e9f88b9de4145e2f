package syntax

import (
	"cmp"
	"slices"

	"erasure/api"
	"erasure/catalogue"
)

// store is a table or view with the names of its columns.
type store struct {
	name    string
	columns []string
}

// builder makes a catalogue of declarations that have been read. It looks up the names in the order of their errors.
type builder struct {
	fault
	catalogue api.Catalogue
	stores    []store // the tables and views that have been added
}

// build adds the declarations in the order of a catalogue and checks the result.
func build(declarations []declaration) *builder {
	ordered := slices.Clone(declarations)
	slices.SortStableFunc(ordered, func(a, b declaration) int { return cmp.Compare(a.kind, b.kind) })
	b := &builder{}
	for _, d := range ordered {
		d.add(b)
	}
	number, errno := catalogue.Check(b.catalogue)
	at := 0
	if errno != api.OK && errno != api.ErrFull {
		at = ordered[number].at
	}
	b.report(at, errno)
	return b
}

// column returns the number of a column among those with the given names.
func (b *builder) column(name api.Token, columns []string) int {
	number := slices.Index(columns, name.Text)
	if number < 0 {
		b.report(name.Pos, api.ErrName)
	}
	return number
}

// source returns the names of the columns of a store.
func (b *builder) source(name api.Token) []string {
	number := slices.IndexFunc(b.stores, func(s store) bool { return s.name == name.Text })
	if number < 0 {
		b.report(name.Pos, api.ErrReference)
		return nil
	}
	return b.stores[number].columns
}

// place returns the number of a column of a store.
func (b *builder) place(x place) int {
	return b.column(x.column, b.source(x.source))
}

// table adds a table whose columns have owners with the given names.
func (b *builder) table(t api.Table, owners [][]api.Token) {
	var names []string
	for _, column := range t.Columns {
		names = append(names, column.Name)
	}
	t.Columns = slices.Clone(t.Columns)
	for i := range t.Columns {
		t.Columns[i].Owners = b.owners(owners[i], names)
	}
	b.catalogue.Tables = append(b.catalogue.Tables, t)
	b.stores = append(b.stores, store{t.Name, names})
}

// owners returns the numbers of the columns with these names, ascending and each once.
func (b *builder) owners(names []api.Token, columns []string) []int {
	var numbers []int
	for _, name := range names {
		numbers = append(numbers, b.column(name, columns))
	}
	slices.Sort(numbers)
	return slices.Compact(numbers)
}

// view adds a view.
func (b *builder) view(q query) {
	v := api.View{Name: q.name, Kind: q.kind, Left: q.left.Text, Right: q.right.Text, Distinct: q.distinct}
	names := sides{left: b.source(q.left)}
	if v.Right != "" {
		names.right = b.source(q.right)
	}
	added := store{name: v.Name}
	for _, item := range q.items {
		v.Items = append(v.Items, api.Item{Name: item.name, Expr: b.expression(item.formula, names)})
		added.columns = append(added.columns, item.name)
	}
	for _, a := range q.aggregates {
		v.Aggregates = append(v.Aggregates, api.Aggregate{Name: a.name, Func: a.function, Expr: b.expression(a.formula, names)})
		added.columns = append(added.columns, a.name)
	}
	for _, pair := range q.pairs {
		left := b.column(pair[0], names.left)
		v.On = append(v.On, [2]int{left, b.column(pair[1], names.right)})
	}
	v.Where = b.expression(q.where, names)
	if v.Kind == api.ViewUnion {
		added.columns = names.left
	}
	b.catalogue.Views = append(b.catalogue.Views, v)
	b.stores = append(b.stores, added)
}

// expression returns the expression that a formula is for columns with the given names.
func (b *builder) expression(f formula, names sides) []api.Term {
	var columns []int // of the references
	for _, r := range f.references {
		columns = append(columns, b.referenced(r, names))
	}
	e := slices.Clone(f.terms)
	for i, term := range e {
		if term.Op == api.OpColumn {
			e[i].Column = columns[term.Column]
		}
	}
	return e
}

// referenced returns the number of the column that a reference names.
func (b *builder) referenced(r reference, names sides) int {
	if r.right {
		return len(names.left) + b.column(r.name, names.right)
	}
	return b.column(r.name, names.left)
}
