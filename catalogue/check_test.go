package catalogue

import (
	"slices"
	"strings"
	"testing"

	"erasure/api"
)

const (
	minInt = -1 << 63
	maxInt = 1<<63 - 1
)

// n and s are constants of a number and a text, col is a column, op an operator with operands.
func n(i int64) []api.Term {
	return []api.Term{{Op: api.OpConst, Value: api.Value{Kind: api.KindInt, Int: i}}}
}
func s(x string) []api.Term {
	return []api.Term{{Op: api.OpConst, Value: api.Value{Kind: api.KindText, Text: x}}}
}
func col(i int) []api.Term { return []api.Term{{Op: api.OpColumn, Column: i}} }
func op(o int, operands ...[]api.Term) []api.Term {
	return append([]api.Term{{Op: o}}, slices.Concat(operands...)...)
}

// The declarations of base by their numbers.
const (
	person = iota
	shop
	orders
	bought
	counts
	both
	some
	every
	index1
	index2
	sketch1
	sketch2
	cache1
	cache2
	release1
	release2
	stream1
	stream2
	backup1
	backup2
)

// base is a valid catalogue.
func base() api.Catalogue {
	return api.Catalogue{
		Tables: []api.Table{
			{Name: "person", Erase: api.EraseRow, Retain: 100, Columns: []api.Column{
				{Name: "id", Type: api.KindInt, Namespace: "person", Owners: []int{0}},
				{Name: "mail", Type: api.KindText, Namespace: "mail", Owners: []int{0, 1}, Joint: api.JointAll, Duty: 100},
				{Name: "age", Type: api.KindInt},
			}},
			{Name: "shop", Columns: []api.Column{{Name: "code", Type: api.KindText}, {Name: "name", Type: api.KindText}}},
			{Name: "orders", Columns: []api.Column{
				{Name: "no", Type: api.KindInt},
				{Name: "who", Type: api.KindInt, References: "person", Owners: []int{1}},
				{Name: "shop", Type: api.KindText, References: "shop"},
				{Name: "item", Type: api.KindText, Owners: []int{1, 4}, Duty: 7},
				{Name: "via", Type: api.KindText, Namespace: "mail"},
			}},
		},
		Views: []api.View{
			{Name: "bought", Left: "orders", Right: "person", On: [][2]int{{1, 0}, {4, 1}}, Where: op(api.OpIsNull, col(2)), Items: []api.Item{{Name: "a", Expr: col(3)}, {Name: "b", Expr: op(api.OpLength, col(6))}}},
			{Name: "counts", Kind: api.ViewGroup, Left: "bought", Items: []api.Item{{Name: "k", Expr: col(0)}}, Aggregates: []api.Aggregate{{Name: "c"}, {Name: "s", Func: api.AggSum, Expr: col(1)}, {Name: "m", Func: api.AggMin, Expr: col(0)}, {Name: "x", Func: api.AggMax, Expr: col(1)}, {Name: "d", Func: api.AggMedian, Expr: col(0)}}},
			{Name: "both", Kind: api.ViewUnion, Left: "bought", Right: "bought"},
			{Name: "some", Left: "both", Items: []api.Item{{Name: "x", Expr: n(1)}, {Name: "a", Expr: col(0)}}, Distinct: true},
			{Name: "every", Kind: api.ViewGroup, Left: "shop", Right: "some", Aggregates: []api.Aggregate{{Name: "c"}}},
		},
		Indexes:  []api.Index{{Name: "index1", Source: "bought", Column: 0}, {Name: "index2", Source: "shop", Column: 1}},
		Sketches: []api.Sketch{{Name: "sketch1", Source: "person", Column: 1, Width: 128, Depth: 8}, {Name: "sketch2", Source: "counts", Column: 5, Kind: api.SketchBottom, Width: 1024, Depth: 1}},
		Caches:   []api.Cache{{Name: "cache1", Source: "some", Column: 0, TTL: 1}, {Name: "cache2", Source: "person", Column: 2, TTL: api.MaxDay}},
		Releases: []api.Release{{Name: "release1", Source: "counts", Threshold: 1024}, {Name: "release2", Source: "every", Threshold: 1}},
		Streams:  []api.Stream{{Name: "stream1", Table: "orders"}, {Name: "stream2", Table: "orders"}},
		Backups:  []api.Backup{{Name: "backup1", Tables: []string{"orders", "person"}, Keep: api.MaxDay}, {Name: "backup2", Tables: []string{"shop"}, Keep: 1}},
	}
}

// change is a change of base, the number of the declaration that it changes, and the error that it causes.
type change struct {
	at    int
	want  api.Errno
	apply func(c *api.Catalogue)
}

func checkChanges(t *testing.T, changes []change) {
	t.Helper()
	for i, x := range changes {
		c := base()
		x.apply(&c)
		checkErrno(t, i, c, x.at, x.want)
	}
}

// checkErrno checks what Check and Valid say of case i.
func checkErrno(t *testing.T, i int, c api.Catalogue, at int, want api.Errno) {
	t.Helper()
	if want == api.OK {
		at = 0
	}
	if got, errno := Check(c); got != at || errno != want {
		t.Errorf("P4.1: case %d: Check = %d, %d, want %d, %d", i, got, errno, at, want)
	}
	if got := Valid(c); got != (want == api.OK) {
		t.Errorf("P4.1: case %d: Valid = %v", i, got)
	}
}

// P4.1
func TestValidCatalogues(t *testing.T) {
	person := api.Table{Name: "person", Columns: []api.Column{{Name: "id", Type: api.KindInt, Namespace: "person"}, {Name: "mail", Type: api.KindText, Owners: []int{0}}}}
	for i, c := range []api.Catalogue{{}, {Tables: []api.Table{}, Views: []api.View{}}, {Tables: []api.Table{person}}, base()} {
		checkErrno(t, i, c, 0, api.OK)
	}
	c := api.Catalogue{Tables: []api.Table{person}}
	c.Tables[0].Columns[0].Owners = []int{0}
	checkErrno(t, 4, c, 0, api.ErrInvalid)
	c.Tables[0].Erase = api.EraseRow
	checkErrno(t, 5, c, 0, api.OK)
}

// grow makes lists of copies of their first element, with names of their own, as long as the limits allow.
func grow() api.Catalogue {
	c := base()
	c.Views = c.Views[1:2]
	c.Views[0].Left, c.Tables[0].Name, c.Tables[1].Name = "x0", "x0", "y0"
	c.Views[0].Items, c.Views[0].Aggregates = nil, c.Views[0].Aggregates[:1]
	c.Tables = slices.Repeat(c.Tables[1:2], api.MaxTables)
	c.Views = slices.Repeat(c.Views, api.MaxViews)
	c.Indexes = slices.Repeat(c.Indexes[:1], api.MaxStores)
	c.Sketches = slices.Repeat(c.Sketches[:1], api.MaxStores)
	c.Caches = slices.Repeat(c.Caches[:1], api.MaxStores)
	c.Releases = slices.Repeat(c.Releases[:1], api.MaxStores)
	c.Streams = slices.Repeat(c.Streams[:1], api.MaxStores)
	c.Backups = slices.Repeat(c.Backups[1:], api.MaxStores)
	name := func(prefix string, i int) string { return prefix + string(rune('a'+i)) }
	for i := range c.Tables {
		c.Tables[i].Name = name("t", i)
	}
	for i := range c.Views {
		c.Views[i].Name, c.Views[i].Left = name("v", i), "ta"
	}
	for i := range api.MaxStores {
		c.Indexes[i].Name, c.Indexes[i].Source = name("i", i), "tb"
		c.Sketches[i].Name, c.Sketches[i].Source = name("s", i), "tc"
		c.Caches[i].Name, c.Caches[i].Source = name("c", i), "vl"
		c.Releases[i].Name, c.Releases[i].Source = name("r", i), "va"
		c.Streams[i].Name, c.Streams[i].Table = name("l", i), "th"
		c.Backups[i].Name, c.Backups[i].Tables = name("b", i), []string{"th", "ta"}
	}
	return c
}

// P4.1
func TestNumbers(t *testing.T) {
	checkErrno(t, 0, grow(), 0, api.OK)
	c := grow()
	c.Backups[api.MaxStores-1].Keep = 0
	checkErrno(t, 1, c, api.MaxTables+api.MaxViews+6*api.MaxStores-1, api.ErrInvalid)
	for i, more := range []func(c *api.Catalogue){
		func(c *api.Catalogue) { c.Tables = make([]api.Table, api.MaxTables+1) },
		func(c *api.Catalogue) { c.Views = make([]api.View, api.MaxViews+1) },
		func(c *api.Catalogue) { c.Indexes = make([]api.Index, api.MaxStores+1) },
		func(c *api.Catalogue) { c.Sketches = make([]api.Sketch, api.MaxStores+1) },
		func(c *api.Catalogue) { c.Caches = make([]api.Cache, api.MaxStores+1) },
		func(c *api.Catalogue) { c.Releases = make([]api.Release, api.MaxStores+1) },
		func(c *api.Catalogue) { c.Streams = make([]api.Stream, api.MaxStores+1) },
		func(c *api.Catalogue) { c.Backups = make([]api.Backup, api.MaxStores+1) },
	} {
		c := base()
		more(&c)
		checkErrno(t, 10+i, c, 0, api.ErrFull)
		// ErrFull comes before the errors of the declarations.
		c.Tables = append(slices.Clone(c.Tables), api.Table{})
		checkErrno(t, 20+i, c, 0, api.ErrFull)
	}
}

// names returns pointers to the names of all declarations.
func names(c *api.Catalogue) []*string {
	var list []*string
	for i := range c.Tables {
		list = append(list, &c.Tables[i].Name)
	}
	for i := range c.Views {
		list = append(list, &c.Views[i].Name)
	}
	for i := range c.Indexes {
		list = append(list, &c.Indexes[i].Name)
	}
	for i := range c.Sketches {
		list = append(list, &c.Sketches[i].Name)
	}
	for i := range c.Caches {
		list = append(list, &c.Caches[i].Name)
	}
	for i := range c.Releases {
		list = append(list, &c.Releases[i].Name)
	}
	for i := range c.Streams {
		list = append(list, &c.Streams[i].Name)
	}
	for i := range c.Backups {
		list = append(list, &c.Backups[i].Name)
	}
	return list
}

// P4.1: names of all declarations, each against all earlier ones.
func TestDeclaredNames(t *testing.T) {
	c := base()
	for i := range names(&c) {
		for _, name := range []string{"", "A", "1", "a b", strings.Repeat("b", api.MaxName+1)} {
			c := base()
			*names(&c)[i] = name
			checkErrno(t, i, c, i, api.ErrName)
		}
		for j := range i {
			c := base()
			*names(&c)[i] = *names(&c)[j]
			checkErrno(t, 100*i+j, c, i, api.ErrDuplicate)
			// The name of a declaration comes before whatever else is wrong with it.
			empty(&c, i)
			checkErrno(t, 100*i+j, c, i, api.ErrDuplicate)
		}
		empty(&c, i)
		*names(&c)[i] = "A"
		checkErrno(t, i, c, i, api.ErrName)
		c = base()
	}
	for i := index1; i <= backup2; i++ {
		c := base()
		*names(&c)[i] = strings.Repeat("b", api.MaxName)
		checkErrno(t, i, c, i, api.OK)
	}
}

// empty makes declaration i one that has nothing but a name.
func empty(c *api.Catalogue, i int) {
	name := *names(c)[i]
	if i < bought {
		c.Tables[i] = api.Table{}
	} else if i < index1 {
		c.Views[i-bought] = api.View{}
	} else {
		j := (i - index1) % 2
		switch (i - index1) / 2 {
		case 0:
			c.Indexes[j] = api.Index{}
		case 1:
			c.Sketches[j] = api.Sketch{}
		case 2:
			c.Caches[j] = api.Cache{}
		case 3:
			c.Releases[j] = api.Release{}
		case 4:
			c.Streams[j] = api.Stream{}
		default:
			c.Backups[j] = api.Backup{}
		}
	}
	*names(c)[i] = name
}

// P4.1: the first declaration with an error counts.
func TestFirstDeclaration(t *testing.T) {
	c := base()
	count := len(names(&c))
	var errnos []api.Errno
	for i := range count {
		c := base()
		empty(&c, i)
		at, errno := Check(c)
		if at != i || errno == api.OK {
			t.Errorf("P4.1: declaration %d is empty: Check = %d, %d", i, at, errno)
		}
		errnos = append(errnos, errno)
	}
	for i := range count {
		for j := i + 1; j < count; j++ {
			c := base()
			empty(&c, i)
			empty(&c, j)
			checkErrno(t, 100*i+j, c, i, errnos[i])
		}
	}
}

// P4.1
func TestTables(t *testing.T) {
	columns := func(count int) []api.Column {
		var list []api.Column
		for i := range count {
			list = append(list, api.Column{Name: "c" + string(rune('0'+i)), Type: api.KindInt})
		}
		return list
	}
	var changes []change
	for _, x := range []struct {
		table api.Table
		want  api.Errno
	}{
		{api.Table{}, api.ErrInvalid}, {api.Table{Columns: columns(1)}, api.OK}, {api.Table{Columns: columns(8)}, api.OK}, {api.Table{Columns: columns(9)}, api.ErrInvalid},
		{api.Table{Columns: columns(1), Erase: -1}, api.ErrInvalid}, {api.Table{Columns: columns(1), Erase: 1}, api.OK}, {api.Table{Columns: columns(1), Erase: 2}, api.ErrInvalid},
		{api.Table{Columns: columns(1), Retain: -1}, api.ErrInvalid}, {api.Table{Columns: columns(1), Retain: minInt}, api.ErrInvalid}, {api.Table{Columns: columns(1), Retain: 1}, api.OK},
		{api.Table{Columns: columns(1), Retain: api.MaxDay}, api.OK}, {api.Table{Columns: columns(1), Retain: api.MaxDay + 1}, api.ErrInvalid}, {api.Table{Columns: columns(1), Retain: maxInt}, api.ErrInvalid},
	} {
		x.table.Name = "extra"
		changes = append(changes, change{orders + 1, x.want, func(c *api.Catalogue) { c.Tables = append(c.Tables, x.table) }})
	}
	checkChanges(t, changes)
}

// P4.1: a column behind the columns id (a namespace), who (a reference) and plain (neither), and before last (a namespace).
func TestColumns(t *testing.T) {
	person, shop := "person", "shop"
	var changes []change
	for _, x := range []struct {
		column api.Column
		want   api.Errno
	}{
		{api.Column{Name: "x", Type: api.KindInt}, api.OK}, {api.Column{Name: "x", Type: api.KindText}, api.OK},
		{api.Column{Type: api.KindInt}, api.ErrName}, {api.Column{Name: "X", Type: api.KindInt}, api.ErrName}, {api.Column{Name: strings.Repeat("x", api.MaxName+1), Type: api.KindInt}, api.ErrName},
		{api.Column{Name: strings.Repeat("x", api.MaxName), Type: api.KindInt}, api.OK}, {api.Column{Name: "person", Type: api.KindInt}, api.OK}, {api.Column{Name: "mail", Type: api.KindInt, Namespace: "mail"}, api.OK},
		{api.Column{Name: "x", Type: api.KindInt, Namespace: "1"}, api.ErrName}, {api.Column{Name: "x", Type: api.KindInt, Namespace: strings.Repeat("x", api.MaxName+1)}, api.ErrName},
		{api.Column{Name: "id", Type: api.KindInt}, api.ErrDuplicate}, {api.Column{Name: "plain", Type: api.KindInt}, api.ErrDuplicate},
		{api.Column{Name: "x", Type: api.KindInt, References: "nothing"}, api.ErrReference}, {api.Column{Name: "x", Type: api.KindInt, References: "Person"}, api.ErrReference},
		{api.Column{Name: "x", Type: api.KindInt, References: "extra"}, api.ErrReference}, {api.Column{Name: "x", Type: api.KindInt, References: "later"}, api.ErrReference}, {api.Column{Name: "x", Type: api.KindText, References: "bought"}, api.ErrReference},
		{api.Column{Name: "x", Type: 0}, api.ErrType}, {api.Column{Name: "x", Type: 3}, api.ErrType}, {api.Column{Name: "x", Type: -1}, api.ErrType},
		{api.Column{Name: "x", Type: api.KindText, References: person, Owners: []int{3}}, api.ErrType}, {api.Column{Name: "x", Type: api.KindInt, References: shop}, api.ErrType}, {api.Column{Name: "x", Type: 0, References: shop}, api.ErrType},
		{api.Column{Name: "x", Type: api.KindText, References: shop}, api.OK}, {api.Column{Name: "x", Type: api.KindText, References: shop, Owners: []int{1}}, api.OK},
		{api.Column{Name: "x", Type: api.KindText, References: shop, Namespace: "x"}, api.ErrInvalid},
		{api.Column{Name: "x", Type: api.KindInt, References: person}, api.ErrInvalid}, {api.Column{Name: "x", Type: api.KindInt, References: person, Owners: []int{1}}, api.ErrInvalid},
		{api.Column{Name: "x", Type: api.KindInt, References: person, Owners: []int{3}}, api.OK}, {api.Column{Name: "x", Type: api.KindInt, References: person, Owners: []int{1, 3, 4}}, api.OK},
		{api.Column{Name: "x", Type: api.KindInt, Owners: []int{0}}, api.OK}, {api.Column{Name: "x", Type: api.KindInt, Owners: []int{1}}, api.OK}, {api.Column{Name: "x", Type: api.KindInt, Owners: []int{0, 1, 4}}, api.OK},
		{api.Column{Name: "x", Type: api.KindInt, Owners: []int{2}}, api.ErrInvalid}, {api.Column{Name: "x", Type: api.KindInt, Owners: []int{3}}, api.ErrInvalid}, {api.Column{Name: "x", Type: api.KindInt, Namespace: "x", Owners: []int{3}}, api.OK},
		{api.Column{Name: "x", Type: api.KindInt, Owners: []int{5}}, api.ErrInvalid}, {api.Column{Name: "x", Type: api.KindInt, Owners: []int{-1}}, api.ErrInvalid}, {api.Column{Name: "x", Type: api.KindInt, Owners: []int{-1, 0}}, api.ErrInvalid},
		{api.Column{Name: "x", Type: api.KindInt, Owners: []int{minInt}}, api.ErrInvalid}, {api.Column{Name: "x", Type: api.KindInt, Owners: []int{0, maxInt}}, api.ErrInvalid},
		{api.Column{Name: "x", Type: api.KindInt, Owners: []int{1, 0}}, api.ErrInvalid}, {api.Column{Name: "x", Type: api.KindInt, Owners: []int{0, 0}}, api.ErrInvalid}, {api.Column{Name: "x", Type: api.KindInt, Owners: []int{0, 1, 1}}, api.ErrInvalid},
		{api.Column{Name: "x", Type: api.KindInt, Joint: api.JointAll}, api.ErrInvalid}, {api.Column{Name: "x", Type: api.KindInt, Owners: []int{0}, Joint: api.JointAll}, api.OK},
		{api.Column{Name: "x", Type: api.KindInt, Owners: []int{0}, Joint: 2}, api.ErrInvalid}, {api.Column{Name: "x", Type: api.KindInt, Owners: []int{0}, Joint: -1}, api.ErrInvalid}, {api.Column{Name: "x", Type: api.KindInt, Joint: -1}, api.ErrInvalid},
		{api.Column{Name: "x", Type: api.KindInt, Duty: 1}, api.ErrInvalid}, {api.Column{Name: "x", Type: api.KindInt, Duty: -1}, api.ErrInvalid}, {api.Column{Name: "x", Type: api.KindInt, Owners: []int{0}, Duty: -1}, api.ErrInvalid},
		{api.Column{Name: "x", Type: api.KindInt, Owners: []int{0}, Duty: api.MaxDay}, api.OK}, {api.Column{Name: "x", Type: api.KindInt, Owners: []int{0}, Duty: api.MaxDay + 1}, api.ErrInvalid},
	} {
		changes = append(changes, change{orders + 1, x.want, func(c *api.Catalogue) {
			c.Tables = append(c.Tables, api.Table{Name: "extra", Columns: []api.Column{
				{Name: "id", Type: api.KindInt, Namespace: "id"}, {Name: "who", Type: api.KindText, References: shop}, {Name: "plain", Type: api.KindInt}, x.column, {Name: "last", Type: api.KindInt, Namespace: "last"},
			}}, api.Table{Name: "later", Columns: []api.Column{{Name: "id", Type: api.KindInt}}})
		}})
	}
	checkChanges(t, changes)
}

// P4.1: duties, and keys with owners.
func TestDutiesAndKeys(t *testing.T) {
	column := func(t, c int, change func(x *api.Column)) func(c *api.Catalogue) {
		return func(x *api.Catalogue) { change(&x.Tables[t].Columns[c]) }
	}
	checkChanges(t, []change{
		{person, api.OK, column(person, 1, func(x *api.Column) { x.Duty = 99 })},
		{person, api.ErrInvalid, column(person, 1, func(x *api.Column) { x.Duty = 101 })},
		{person, api.ErrInvalid, func(c *api.Catalogue) { c.Tables[person].Retain = 99 }},
		{person, api.OK, func(c *api.Catalogue) { c.Tables[person].Retain = 0 }},
		{person, api.ErrInvalid, func(c *api.Catalogue) { c.Tables[person].Erase = api.EraseCells }},
		{orders, api.ErrInvalid, column(orders, 0, func(x *api.Column) { x.Owners = []int{1} })},
		{orders, api.OK, func(c *api.Catalogue) {
			c.Tables[orders].Columns[0].Owners, c.Tables[orders].Erase = []int{1}, api.EraseRow
		}},
		{orders, api.ErrInvalid, column(orders, 1, func(x *api.Column) { x.Owners = nil })},
		{orders, api.ErrInvalid, column(orders, 1, func(x *api.Column) { x.Owners = []int{4} })},
		{orders, api.OK, func(c *api.Catalogue) {
			c.Tables[person].Columns[0].Owners, c.Tables[orders].Columns[1].Owners = nil, nil
		}},
		{orders, api.ErrType, func(c *api.Catalogue) { c.Tables[shop].Columns[0].Type = api.KindInt }},
	})
}

// P4.1
func TestViews(t *testing.T) {
	view := func(number int, change func(v *api.View)) func(c *api.Catalogue) {
		return func(c *api.Catalogue) { change(&c.Views[number-bought]) }
	}
	items := func(count int) []api.Item {
		var list []api.Item
		for i := range count {
			list = append(list, api.Item{Name: "i" + string(rune('0'+i)), Expr: n(1)})
		}
		return list
	}
	one := []api.Aggregate{{Name: "c"}}
	checkChanges(t, []change{
		{bought, api.ErrInvalid, view(bought, func(v *api.View) { v.Kind = -1 })}, {bought, api.ErrInvalid, view(bought, func(v *api.View) { v.Kind = 3 })},
		{bought, api.ErrReference, view(bought, func(v *api.View) { v.Left = "" })}, {bought, api.ErrReference, view(bought, func(v *api.View) { v.Left = "bought" })},
		{bought, api.ErrReference, view(bought, func(v *api.View) { v.Left = "both" })}, {bought, api.ErrReference, view(bought, func(v *api.View) { v.Right = "bought" })},
		{bought, api.ErrReference, view(bought, func(v *api.View) { v.Right = "counts" })}, {bought, api.ErrReference, view(bought, func(v *api.View) { v.Right = "index1" })}, {every, api.ErrReference, view(every, func(v *api.View) { v.Left = "Shop" })},
		{both, api.ErrInvalid, view(both, func(v *api.View) { v.Right = "" })}, {both, api.ErrInvalid, view(both, func(v *api.View) { v.On = [][2]int{{0, 0}} })}, {both, api.ErrInvalid, view(both, func(v *api.View) { v.Where = n(1) })},
		{both, api.ErrInvalid, view(both, func(v *api.View) { v.Items = items(1) })}, {both, api.ErrInvalid, view(both, func(v *api.View) { v.Aggregates = one })}, {both, api.ErrInvalid, view(both, func(v *api.View) { v.Distinct = true })},
		{both, api.OK, view(both, func(v *api.View) {
			v.On, v.Where, v.Items, v.Aggregates = [][2]int{}, []api.Term{}, []api.Item{}, []api.Aggregate{}
		})},
		{some, api.ErrInvalid, view(some, func(v *api.View) { v.On = [][2]int{{0, 0}} })}, {counts, api.ErrInvalid, view(counts, func(v *api.View) { v.On = [][2]int{{0, 0}} })},
		{bought, api.OK, view(bought, func(v *api.View) { v.On = nil })}, {bought, api.OK, view(bought, func(v *api.View) { v.On = slices.Repeat([][2]int{{1, 0}}, 8) })}, {bought, api.ErrInvalid, view(bought, func(v *api.View) { v.On = slices.Repeat([][2]int{{1, 0}}, 9) })},
		{every, api.OK, view(every, func(v *api.View) { v.On = slices.Repeat([][2]int{{1, 1}}, 8) })}, {every, api.ErrInvalid, view(every, func(v *api.View) { v.On = slices.Repeat([][2]int{{1, 1}}, 9) })},
		{some, api.ErrInvalid, view(some, func(v *api.View) { v.Items = nil })}, {some, api.ErrInvalid, view(some, func(v *api.View) { v.Aggregates = one })}, {some, api.ErrInvalid, view(some, func(v *api.View) { v.Items, v.Aggregates = nil, one })},
		{every, api.ErrInvalid, view(every, func(v *api.View) { v.Aggregates = nil })}, {every, api.ErrInvalid, view(every, func(v *api.View) { v.Distinct = true })}, {every, api.ErrInvalid, view(every, func(v *api.View) { v.Items, v.Aggregates = items(1), nil })},
		{some, api.OK, view(some, func(v *api.View) { v.Items = items(1) })}, {some, api.OK, view(some, func(v *api.View) { v.Items = items(8) })}, {some, api.ErrInvalid, view(some, func(v *api.View) { v.Items = items(9) })},
		{every, api.OK, view(every, func(v *api.View) { v.Items = items(7) })}, {every, api.ErrInvalid, view(every, func(v *api.View) { v.Items = items(8) })},
		{both, api.ErrType, view(both, func(v *api.View) { v.Right = "counts" })}, {both, api.ErrType, view(both, func(v *api.View) { v.Left = "shop" })}, {both, api.ErrType, view(both, func(v *api.View) { v.Right = "person" })},
		{some, api.OK, view(both, func(v *api.View) { v.Left, v.Right = "person", "person" })},
	})
}

// P4.1: pairs, conditions, items and aggregates. The view bought has 5 columns on its left and 3 on its right.
func TestPartsOfViews(t *testing.T) {
	var changes []change
	for _, x := range []struct {
		pair [2]int
		want api.Errno
	}{
		{[2]int{0, 0}, api.OK}, {[2]int{0, 2}, api.OK}, {[2]int{4, 1}, api.OK}, {[2]int{0, 1}, api.ErrType}, {[2]int{4, 0}, api.ErrType},
		{[2]int{5, 0}, api.ErrName}, {[2]int{-1, 0}, api.ErrName}, {[2]int{0, -1}, api.ErrName}, {[2]int{0, 3}, api.ErrName}, {[2]int{maxInt, minInt}, api.ErrName},
	} {
		changes = append(changes, change{bought, x.want, func(c *api.Catalogue) { c.Views[0].On[1] = x.pair }})
	}
	for _, x := range []struct {
		e                []api.Term
		where, item, sum api.Errno
	}{
		{n(1), api.OK, api.OK, api.OK}, {s("a"), api.ErrType, api.OK, api.ErrType}, {col(0), api.OK, api.OK, api.OK}, {col(4), api.ErrType, api.OK, api.ErrType}, {col(7), api.OK, api.OK, api.OK},
		{col(8), api.ErrName, api.ErrName, api.ErrName}, {col(-1), api.ErrInvalid, api.ErrInvalid, api.ErrInvalid}, {nil, api.OK, api.ErrInvalid, api.ErrInvalid}, {[]api.Term{}, api.OK, api.ErrInvalid, api.ErrInvalid}, {op(api.OpNot), api.ErrInvalid, api.ErrInvalid, api.ErrInvalid},
		{op(api.OpNot, col(4)), api.ErrType, api.ErrType, api.ErrType}, {op(api.OpConcat, col(4), col(6)), api.ErrType, api.OK, api.ErrType}, {op(api.OpEqual, col(4), col(6)), api.OK, api.OK, api.OK},
	} {
		changes = append(changes, change{bought, x.where, func(c *api.Catalogue) { c.Views[0].Where = x.e }})
		extra := func(change func(v *api.View)) func(c *api.Catalogue) {
			v := api.View{Name: "extra", Left: "orders", Right: "person", Kind: api.ViewGroup, Items: []api.Item{{Name: "k", Expr: n(1)}}, Aggregates: []api.Aggregate{{Name: "c"}, {Name: "z"}}}
			change(&v)
			return func(c *api.Catalogue) { c.Views = append(c.Views, v) }
		}
		changes = append(changes, change{every + 1, x.where, extra(func(v *api.View) { v.Where = x.e })})
		changes = append(changes, change{every + 1, x.item, extra(func(v *api.View) { v.Items[0].Expr = x.e })})
		for function, want := range []api.Errno{api.ErrInvalid, x.sum, x.item, x.item, x.item, api.ErrInvalid, api.ErrInvalid} {
			if function == api.AggCount && len(x.e) == 0 {
				want = api.OK
			}
			changes = append(changes, change{every + 1, want, extra(func(v *api.View) { v.Aggregates[1].Func, v.Aggregates[1].Expr = function, x.e })})
		}
	}
	checkChanges(t, append(changes,
		change{bought, api.OK, func(c *api.Catalogue) { c.Views[0].Where = nil }},
		change{counts, api.ErrInvalid, func(c *api.Catalogue) { c.Views[1].Aggregates[0].Func = -1 }},
		change{bought, api.ErrName, func(c *api.Catalogue) { c.Views[0].Items[1].Name = "" }},
		change{bought, api.ErrName, func(c *api.Catalogue) { c.Views[0].Items[1].Name = strings.Repeat("x", api.MaxName+1) }},
		change{bought, api.ErrDuplicate, func(c *api.Catalogue) { c.Views[0].Items[1].Name = "a" }},
		change{bought, api.OK, func(c *api.Catalogue) { c.Views[0].Items[1].Name = "bought" }},
		change{counts, api.ErrName, func(c *api.Catalogue) { c.Views[1].Aggregates[4].Name = "D" }},
		change{counts, api.ErrDuplicate, func(c *api.Catalogue) { c.Views[1].Aggregates[4].Name = "x" }},
		change{counts, api.ErrDuplicate, func(c *api.Catalogue) { c.Views[1].Aggregates[4].Name = "k" }},
	))
}

// P4.1
func TestOtherDeclarations(t *testing.T) {
	sketch := func(want api.Errno, kind, width, depth int) change {
		return change{sketch1, want, func(c *api.Catalogue) {
			c.Sketches[0].Kind, c.Sketches[0].Width, c.Sketches[0].Depth = kind, width, depth
		}}
	}
	checkChanges(t, []change{
		{index1, api.ErrReference, func(c *api.Catalogue) { c.Indexes[0].Source = "" }}, {index2, api.ErrReference, func(c *api.Catalogue) { c.Indexes[1].Source = "index1" }}, {index1, api.OK, func(c *api.Catalogue) {
			c.Indexes[0].Source = "every"
			c.Views[4] = c.Views[3]
			c.Views[4].Name = "every"
			c.Indexes[0].Column = 1
			c.Releases = nil
		}},
		{index1, api.ErrName, func(c *api.Catalogue) { c.Indexes[0].Column = -1 }}, {index1, api.ErrName, func(c *api.Catalogue) { c.Indexes[0].Column = 2 }}, {index1, api.ErrType, func(c *api.Catalogue) { c.Indexes[0].Column = 1 }},
		{sketch1, api.ErrReference, func(c *api.Catalogue) { c.Sketches[0].Source = "index1" }}, {sketch1, api.ErrName, func(c *api.Catalogue) { c.Sketches[0].Column = 3 }}, {sketch1, api.ErrName, func(c *api.Catalogue) { c.Sketches[0].Column = minInt }}, {sketch1, api.OK, func(c *api.Catalogue) { c.Sketches[0].Column = 2 }},
		sketch(api.OK, api.SketchCount, 1, 1), sketch(api.OK, api.SketchBloom, 128, 8), sketch(api.OK, api.SketchCount, 1024, 1), sketch(api.OK, api.SketchBottom, 1024, 1), sketch(api.OK, api.SketchBloom, 341, 3), sketch(api.OK, api.SketchBottom, 1, 1),
		sketch(api.ErrInvalid, -1, 1, 1), sketch(api.ErrInvalid, 3, 1, 1), sketch(api.ErrInvalid, api.SketchCount, 0, 1), sketch(api.ErrInvalid, api.SketchCount, -1, 1), sketch(api.ErrInvalid, api.SketchCount, 1025, 1), sketch(api.ErrInvalid, api.SketchCount, 1, 0), sketch(api.ErrInvalid, api.SketchCount, 1, 9),
		sketch(api.ErrInvalid, api.SketchBottom, 1, 2), sketch(api.ErrInvalid, api.SketchBottom, 1, 0), sketch(api.ErrInvalid, api.SketchBottom, 1025, 1), sketch(api.ErrInvalid, api.SketchCount, 129, 8), sketch(api.ErrInvalid, api.SketchBloom, 342, 3), sketch(api.ErrInvalid, api.SketchCount, -128, -8), sketch(api.ErrInvalid, api.SketchCount, 1<<61, 8), sketch(api.ErrInvalid, api.SketchCount, 1, minInt),
		{cache1, api.ErrReference, func(c *api.Catalogue) { c.Caches[0].Source = "cache1" }}, {cache1, api.ErrName, func(c *api.Catalogue) { c.Caches[0].Column = 2 }}, {cache1, api.ErrName, func(c *api.Catalogue) { c.Caches[0].Column = -1 }}, {cache1, api.OK, func(c *api.Catalogue) { c.Caches[0].Column = 1 }},
		{cache1, api.ErrInvalid, func(c *api.Catalogue) { c.Caches[0].TTL = 0 }}, {cache1, api.ErrInvalid, func(c *api.Catalogue) { c.Caches[0].TTL = -1 }}, {cache1, api.ErrInvalid, func(c *api.Catalogue) { c.Caches[0].TTL = api.MaxDay + 1 }},
		{release1, api.ErrReference, func(c *api.Catalogue) { c.Releases[0].Source = "shop" }}, {release1, api.ErrReference, func(c *api.Catalogue) { c.Releases[0].Source = "orders" }}, {release1, api.ErrReference, func(c *api.Catalogue) { c.Releases[0].Source = "" }}, {release1, api.ErrReference, func(c *api.Catalogue) { c.Releases[0].Source = "cache1" }},
		{release1, api.ErrInvalid, func(c *api.Catalogue) { c.Releases[0].Source = "bought" }}, {release1, api.ErrInvalid, func(c *api.Catalogue) { c.Releases[0].Source = "both" }}, {release1, api.ErrInvalid, func(c *api.Catalogue) {
			c.Views[1].Aggregates[0] = api.Aggregate{Name: "c", Func: api.AggMax, Expr: col(1)}
		}},
		{release1, api.ErrInvalid, func(c *api.Catalogue) {
			c.Views[1].Aggregates[0], c.Views[1].Aggregates[1] = c.Views[1].Aggregates[1], c.Views[1].Aggregates[0]
		}},
		{release1, api.ErrInvalid, func(c *api.Catalogue) { c.Releases[0].Threshold = 0 }}, {release1, api.ErrInvalid, func(c *api.Catalogue) { c.Releases[0].Threshold = 1025 }}, {release2, api.ErrInvalid, func(c *api.Catalogue) { c.Releases[1].Threshold = -1 }}, {release2, api.OK, func(c *api.Catalogue) { c.Releases[1].Threshold = 1024 }},
		{stream1, api.ErrReference, func(c *api.Catalogue) { c.Streams[0].Table = "" }}, {stream1, api.ErrReference, func(c *api.Catalogue) { c.Streams[0].Table = "bought" }}, {stream2, api.ErrReference, func(c *api.Catalogue) { c.Streams[1].Table = "stream1" }}, {stream1, api.OK, func(c *api.Catalogue) { c.Streams[0].Table = "person" }},
		{backup1, api.ErrInvalid, func(c *api.Catalogue) { c.Backups[0].Tables = nil }}, {backup1, api.ErrInvalid, func(c *api.Catalogue) { c.Backups[0].Keep = api.MaxDay + 1 }}, {backup2, api.ErrInvalid, func(c *api.Catalogue) { c.Backups[1].Keep = 0 }}, {backup2, api.ErrInvalid, func(c *api.Catalogue) { c.Backups[1].Keep = -1 }},
		{backup1, api.ErrReference, func(c *api.Catalogue) { c.Backups[0].Tables[1] = "bought" }}, {backup1, api.ErrReference, func(c *api.Catalogue) { c.Backups[0].Tables[0] = "" }}, {backup1, api.ErrDuplicate, func(c *api.Catalogue) { c.Backups[0].Tables[1] = "orders" }},
		{backup1, api.ErrDuplicate, func(c *api.Catalogue) { c.Backups[0].Tables = []string{"shop", "person", "shop", "bought"} }}, {backup1, api.ErrReference, func(c *api.Catalogue) { c.Backups[0].Tables = []string{"shop", "bought", "shop"} }}, {backup1, api.OK, func(c *api.Catalogue) { c.Backups[0].Tables = []string{"shop", "person", "orders"} }},
	})
}
