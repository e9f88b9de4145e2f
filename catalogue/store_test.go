package catalogue

import (
	"reflect"
	"slices"
	"testing"

	"erasure/api"
)

// P4.2
func TestFind(t *testing.T) {
	c := base()
	for i, name := range names(&c) {
		want := i
		if i > every {
			want = -1
		}
		if got := Find(c, *name); got != want {
			t.Errorf("P4.2: Find(%s) = %d, want %d", *name, got, want)
		}
	}
	for _, name := range []string{"", "Person", "nothing", "id", "person ", "a"} {
		if got := Find(c, name); got != -1 {
			t.Errorf("P4.2: Find(%q) = %d", name, got)
		}
	}
}

// P4.2
func TestNamesAndTypes(t *testing.T) {
	const number, text = api.KindInt, api.KindText
	for store, want := range []struct {
		names []string
		types []int
	}{
		{[]string{"id", "mail", "age"}, []int{number, text, number}},
		{[]string{"code", "name"}, []int{text, text}},
		{[]string{"no", "who", "shop", "item", "via"}, []int{number, number, text, text, text}},
		{[]string{"a", "b"}, []int{text, number}},
		{[]string{"k", "c", "s", "m", "x", "d"}, []int{text, number, number, text, number, text}},
		{[]string{"a", "b"}, []int{text, number}},
		{[]string{"x", "a"}, []int{number, text}},
		{[]string{"c"}, []int{number}},
	} {
		if got := Names(base(), store); !slices.Equal(got, want.names) {
			t.Errorf("P4.2: Names of %d = %v, want %v", store, got, want.names)
		}
		if got := Types(base(), store); !slices.Equal(got, want.types) {
			t.Errorf("P4.2: Types of %d = %v, want %v", store, got, want.types)
		}
	}
}

// P4.2: a union has the names of its left source.
func TestNamesOfUnion(t *testing.T) {
	c := base()
	c.Views = append(c.Views, api.View{Name: "swapped", Left: "orders", Items: []api.Item{{Name: "y", Expr: col(2)}, {Name: "z", Expr: col(0)}}})
	c.Views = append(c.Views, api.View{Name: "union", Kind: api.ViewUnion, Left: "swapped", Right: "bought"}, api.View{Name: "again", Kind: api.ViewUnion, Left: "bought", Right: "union"})
	for store, want := range map[int][]string{every + 2: {"y", "z"}, every + 3: {"a", "b"}} {
		if got := Names(c, store); !slices.Equal(got, want) {
			t.Errorf("P4.2: Names of %d = %v, want %v", store, got, want)
		}
	}
}

// P4.3
func TestSourcesAndDependents(t *testing.T) {
	for store, want := range []struct{ sources, dependents []int }{
		{nil, []int{bought, counts, both, some, every}},
		{nil, []int{every}},
		{nil, []int{bought, counts, both, some, every}},
		{[]int{person, orders}, []int{counts, both, some, every}},
		{[]int{bought}, nil},
		{[]int{bought}, []int{some, every}},
		{[]int{both}, []int{every}},
		{[]int{shop, some}, nil},
	} {
		if got := Sources(base(), store); !slices.Equal(got, want.sources) {
			t.Errorf("P4.3: Sources of %d = %v, want %v", store, got, want.sources)
		}
		if got := Dependents(base(), store); !slices.Equal(got, want.dependents) {
			t.Errorf("P4.3: Dependents of %d = %v, want %v", store, got, want.dependents)
		}
	}
}

// P4.4
func TestPersonalAndFixed(t *testing.T) {
	c := base()
	c.Tables = append(c.Tables, api.Table{Name: "post", Columns: []api.Column{
		{Name: "no", Type: api.KindInt}, {Name: "body", Type: api.KindText, Owners: []int{3, 5}}, {Name: "size", Type: api.KindInt}, {Name: "to", Type: api.KindText, Namespace: "mail"},
		{Name: "copy", Type: api.KindText, Owners: []int{3}}, {Name: "from", Type: api.KindText, Namespace: "mail", Owners: []int{5}}, {Name: "list", Type: api.KindText, Namespace: "list"},
	}})
	for table, want := range []struct{ personal, fixed []int }{
		{[]int{0, 1}, []int{0, 1}}, {nil, []int{0}}, {[]int{1, 3}, []int{0, 1, 4}}, {[]int{1, 4, 5}, []int{0, 3, 5}},
	} {
		if got := Personal(c, table); !slices.Equal(got, want.personal) {
			t.Errorf("P4.4: Personal of %d = %v, want %v", table, got, want.personal)
		}
		if got := Fixed(c, table); !slices.Equal(got, want.fixed) {
			t.Errorf("P4.4: Fixed of %d = %v, want %v", table, got, want.fixed)
		}
	}
	c = api.Catalogue{Tables: []api.Table{{Name: "person", Columns: []api.Column{{Name: "id", Type: api.KindInt, Namespace: "person"}, {Name: "mail", Type: api.KindText, Owners: []int{0}}}}}}
	if personal, fixed := Personal(c, 0), Fixed(c, 0); !slices.Equal(personal, []int{1}) || !slices.Equal(fixed, []int{0}) {
		t.Errorf("P4.4: example 1: %v, %v", personal, fixed)
	}
}

// results are the results of all functions of one store.
func results(c api.Catalogue, store int) [6]any {
	return [6]any{Names(c, store), Types(c, store), Sources(c, store), Dependents(c, store), Personal(c, store), Fixed(c, store)}
}

// P4.2, P4.3, P4.4: numbers that are not those of a store or table.
func TestNoStore(t *testing.T) {
	for _, store := range []int{minInt, minInt + 2, minInt + 3, minInt + 8, -maxInt, -9, -8, -3, -1, every + 1, every + 2, backup2, 100, maxInt} {
		for i, list := range results(base(), store) {
			if reflect.ValueOf(list).Len() != 0 {
				t.Errorf("P4.2 to P4.4: function %d returns %v for %d", i, list, store)
			}
		}
	}
	for store := bought; store <= every; store++ {
		if personal, fixed := Personal(base(), store), Fixed(base(), store); len(personal)+len(fixed) > 0 {
			t.Errorf("P4.4: the view %d has %v and %v", store, personal, fixed)
		}
	}
	for i, list := range results(api.Catalogue{}, 0) {
		if reflect.ValueOf(list).Len() != 0 {
			t.Errorf("P4.2 to P4.4: function %d returns %v for the empty catalogue", i, list)
		}
	}
}

// P4.2, P4.3, P4.4: catalogues that are not valid, whatever is wrong with them.
func TestNotValid(t *testing.T) {
	c := base()
	for i := range names(&c) {
		c := base()
		empty(&c, i)
		checkNothing(t, c)
	}
	c = base()
	c.Backups = slices.Repeat(c.Backups, 9)
	checkNothing(t, c)
	c.Tables = slices.Repeat(c.Tables, 4)
	checkNothing(t, c)
}

func checkNothing(t *testing.T, c api.Catalogue) {
	t.Helper()
	for store := -1; store < 30; store++ {
		for i, list := range results(c, store) {
			if reflect.ValueOf(list).Len() != 0 {
				t.Errorf("P4.2 to P4.4: function %d returns %v for store %d of a catalogue that is not valid", i, list, store)
			}
		}
	}
	for _, name := range names(&c) {
		if got := Find(c, *name); got != -1 {
			t.Errorf("P4.2: Find(%s) = %d for a catalogue that is not valid", *name, got)
		}
	}
}

// Rule 3: arguments are not modified, and results are new.
func TestResultsAreNew(t *testing.T) {
	c := base()
	Check(c)
	Find(c, "some")
	for store := range every + 1 {
		before := results(c, store)
		for _, list := range results(c, store) {
			switch list := list.(type) {
			case []int:
				for i := range list[:cap(list)] {
					list[:cap(list)][i] = -7
				}
			case []string:
				for i := range list[:cap(list)] {
					list[:cap(list)][i] = "changed"
				}
			}
		}
		if !reflect.DeepEqual(results(c, store), before) || !reflect.DeepEqual(c, base()) {
			t.Fatalf("rule 3: changing the results of store %d changes something else", store)
		}
	}
}

// Rule 1: arguments of any size.
func TestLargeArguments(t *testing.T) {
	const size = 1 << 20
	checkChanges(t, []change{
		{person, api.ErrName, func(c *api.Catalogue) { c.Tables[0].Name = string(make([]byte, size)) }},
		{person, api.ErrInvalid, func(c *api.Catalogue) { c.Tables[0].Columns = make([]api.Column, size) }},
		{person, api.ErrInvalid, func(c *api.Catalogue) { c.Tables[0].Columns[1].Owners = make([]int, size) }},
		{bought, api.ErrInvalid, func(c *api.Catalogue) { c.Views[0].On = make([][2]int, size) }},
		{bought, api.ErrInvalid, func(c *api.Catalogue) { c.Views[0].Where = slices.Repeat(op(api.OpNot), size) }},
		{bought, api.ErrInvalid, func(c *api.Catalogue) { c.Views[0].Items = make([]api.Item, size) }},
		{bought, api.ErrInvalid, func(c *api.Catalogue) { c.Views[0].Items[0].Expr = slices.Repeat(op(api.OpIf), size) }},
		{counts, api.ErrInvalid, func(c *api.Catalogue) { c.Views[1].Aggregates[0].Expr = make([]api.Term, size) }},
		{backup1, api.ErrDuplicate, func(c *api.Catalogue) { c.Backups[0].Tables = slices.Repeat([]string{"orders"}, size) }},
		{0, api.ErrFull, func(c *api.Catalogue) { c.Tables = make([]api.Table, size) }},
	})
}
