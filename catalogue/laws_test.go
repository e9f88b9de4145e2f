package catalogue

import (
	"slices"
	"strings"
	"testing"

	"erasure/api"
	"erasure/expr"
	"erasure/lexer"
)

// rules are the errors of a declaration in the order of the chapter; a rule may rely on those before it.
type rules []struct {
	errno   api.Errno
	applies func() bool
}

func (l *rules) add(errno api.Errno, applies func() bool) {
	*l = append(*l, struct {
		errno   api.Errno
		applies func() bool
	}{errno, applies})
}

// first returns the first error that applies.
func (l rules) first() api.Errno {
	for _, rule := range l {
		if rule.applies() {
			return rule.errno
		}
	}
	return api.OK
}

func outside(x, low, high int) bool { return x < low || x > high }

// storeNamed returns the number of a store by the names of tables and views, looking at the first ones only.
func storeNamed(c api.Catalogue, name string, first int) int {
	for i := range min(first, len(c.Tables)+len(c.Views)) {
		if i < len(c.Tables) && c.Tables[i].Name == name || i >= len(c.Tables) && c.Views[i-len(c.Tables)].Name == name {
			return i
		}
	}
	return -1
}

func tableNamed(c api.Catalogue, name string, first int) int {
	return storeNamed(c, name, min(first, len(c.Tables)))
}

// wantTypes returns the types of the columns of a store without errors, by the definition.
func wantTypes(c api.Catalogue, store int) []int {
	var types []int
	if store < 0 {
		return nil
	}
	if store < len(c.Tables) {
		for _, column := range c.Tables[store].Columns {
			types = append(types, column.Type)
		}
		return types
	}
	v := c.Views[store-len(c.Tables)]
	if v.Kind == api.ViewUnion {
		return wantTypes(c, storeNamed(c, v.Left, store))
	}
	input := inputTypes(c, store)
	for _, item := range v.Items {
		kind, _ := expr.Type(item.Expr, input)
		types = append(types, kind)
	}
	for _, a := range v.Aggregates {
		kind := api.KindInt
		if a.Func != api.AggCount && a.Func != api.AggSum {
			kind, _ = expr.Type(a.Expr, input)
		}
		types = append(types, kind)
	}
	return types
}

// inputTypes returns the types of the columns of Left, followed by those of Right.
func inputTypes(c api.Catalogue, store int) []int {
	v := c.Views[store-len(c.Tables)]
	return slices.Concat(wantTypes(c, storeNamed(c, v.Left, store)), wantTypes(c, storeNamed(c, v.Right, store)))
}

func wantNames(c api.Catalogue, store int) []string {
	var list []string
	if store < len(c.Tables) {
		for _, column := range c.Tables[store].Columns {
			list = append(list, column.Name)
		}
		return list
	}
	v := c.Views[store-len(c.Tables)]
	if v.Kind == api.ViewUnion {
		return wantNames(c, storeNamed(c, v.Left, store))
	}
	for _, item := range v.Items {
		list = append(list, item.Name)
	}
	for _, a := range v.Aggregates {
		list = append(list, a.Name)
	}
	return list
}

func tableRules(c api.Catalogue, number int) (l rules) {
	x := c.Tables[number]
	l.add(api.ErrInvalid, func() bool {
		return len(x.Columns) == 0 || len(x.Columns) > api.MaxColumns || x.Erase != api.EraseCells && x.Erase != api.EraseRow || outside(x.Retain, 0, api.MaxDay)
	})
	for i, column := range x.Columns {
		l.add(api.ErrName, func() bool {
			return !lexer.IsName(column.Name) || column.Namespace != "" && !lexer.IsName(column.Namespace)
		})
		l.add(api.ErrDuplicate, func() bool {
			return slices.ContainsFunc(x.Columns[:i], func(y api.Column) bool { return y.Name == column.Name })
		})
		l.add(api.ErrReference, func() bool { return column.References != "" && tableNamed(c, column.References, number) < 0 })
		l.add(api.ErrType, func() bool { return column.Type != api.KindInt && column.Type != api.KindText })
		l.add(api.ErrType, func() bool {
			return column.References != "" && column.Type != c.Tables[tableNamed(c, column.References, number)].Columns[0].Type
		})
		l.add(api.ErrInvalid, func() bool { return column.Namespace != "" && column.References != "" })
		for j, owner := range column.Owners {
			l.add(api.ErrInvalid, func() bool {
				return outside(owner, 0, len(x.Columns)-1) || x.Columns[owner].Namespace == "" && x.Columns[owner].References == "" || j > 0 && column.Owners[j-1] >= owner
			})
		}
		without := len(column.Owners) == 0
		l.add(api.ErrInvalid, func() bool {
			return column.Joint != api.JointAny && column.Joint != api.JointAll || column.Joint != api.JointAny && without
		})
		l.add(api.ErrInvalid, func() bool {
			return outside(column.Duty, 0, api.MaxDay) || column.Duty != 0 && without || x.Retain != 0 && column.Duty > x.Retain
		})
		l.add(api.ErrInvalid, func() bool { return i == 0 && !without && x.Erase != api.EraseRow })
		l.add(api.ErrInvalid, func() bool {
			return column.References != "" && len(c.Tables[tableNamed(c, column.References, number)].Columns[0].Owners) > 0 && !slices.Contains(column.Owners, i)
		})
	}
	return l
}

func viewRules(c api.Catalogue, number int) (l rules) {
	x := c.Views[number-len(c.Tables)]
	left, right := storeNamed(c, x.Left, number), storeNamed(c, x.Right, number)
	l.add(api.ErrInvalid, func() bool { return outside(x.Kind, 0, 2) })
	l.add(api.ErrReference, func() bool { return left < 0 || right < 0 && x.Right != "" })
	l.add(api.ErrInvalid, func() bool {
		switch x.Kind {
		case api.ViewUnion:
			return x.Right == "" || len(x.On) > 0 || len(x.Where) > 0 || len(x.Items) > 0 || len(x.Aggregates) > 0 || x.Distinct
		case api.ViewSelect:
			return len(x.Items) == 0 || len(x.Aggregates) > 0
		default:
			return len(x.Aggregates) == 0 || x.Distinct
		}
	})
	l.add(api.ErrInvalid, func() bool {
		return len(x.On) > 0 && x.Right == "" || len(x.On) > api.MaxColumns || len(x.Items)+len(x.Aggregates) > api.MaxColumns
	})
	l.add(api.ErrType, func() bool { return x.Kind == api.ViewUnion && !slices.Equal(wantTypes(c, left), wantTypes(c, right)) })
	for _, pair := range x.On {
		l.add(api.ErrName, func() bool {
			return outside(pair[0], 0, len(wantTypes(c, left))-1) || outside(pair[1], 0, len(wantTypes(c, right))-1)
		})
		l.add(api.ErrType, func() bool { return wantTypes(c, left)[pair[0]] != wantTypes(c, right)[pair[1]] })
	}
	l.expression(c, number, x.Where, len(x.Where) > 0, true)
	var earlier []string
	name := func(name string) {
		before := slices.Clone(earlier)
		l.add(api.ErrName, func() bool { return !lexer.IsName(name) })
		l.add(api.ErrDuplicate, func() bool { return slices.Contains(before, name) })
		earlier = append(earlier, name)
	}
	for _, item := range x.Items {
		name(item.Name)
		l.expression(c, number, item.Expr, true, false)
	}
	for _, a := range x.Aggregates {
		name(a.Name)
		l.add(api.ErrInvalid, func() bool { return outside(a.Func, 0, 4) || a.Func == api.AggCount && len(a.Expr) > 0 })
		l.expression(c, number, a.Expr, a.Func != api.AggCount, a.Func == api.AggSum)
	}
	return l
}

// expression adds the errors of an expression of a view, if there is one, which may have to be an integer.
func (l *rules) expression(c api.Catalogue, number int, e []api.Term, there, integer bool) {
	for _, errno := range []api.Errno{api.ErrInvalid, api.ErrName, api.ErrType} {
		l.add(errno, func() bool {
			if !there {
				return false
			}
			_, got := expr.Type(e, inputTypes(c, number))
			return got == errno
		})
	}
	l.add(api.ErrType, func() bool {
		if !there || !integer {
			return false
		}
		kind, _ := expr.Type(e, inputTypes(c, number))
		return kind != api.KindInt
	})
}

// placeRules are the rules of what is derived from one column.
func placeRules(c api.Catalogue, source string, column int) (l rules) {
	store := storeNamed(c, source, maxInt)
	l.add(api.ErrReference, func() bool { return store < 0 })
	l.add(api.ErrName, func() bool { return outside(column, 0, len(wantTypes(c, store))-1) })
	return l
}

func sketchRules(c api.Catalogue, x api.Sketch) rules {
	l := placeRules(c, x.Source, x.Column)
	l.add(api.ErrInvalid, func() bool { return outside(x.Kind, 0, 2) })
	l.add(api.ErrInvalid, func() bool { return outside(x.Width, 1, api.MaxCells) })
	l.add(api.ErrInvalid, func() bool { return outside(x.Depth, 1, 8) || x.Kind == api.SketchBottom && x.Depth != 1 })
	l.add(api.ErrInvalid, func() bool { return x.Width*x.Depth > api.MaxCells })
	return l
}

func releaseRules(c api.Catalogue, x api.Release) (l rules) {
	store := storeNamed(c, x.Source, maxInt)
	l.add(api.ErrReference, func() bool { return store < len(c.Tables) })
	l.add(api.ErrInvalid, func() bool {
		v := c.Views[store-len(c.Tables)]
		return v.Kind != api.ViewGroup || v.Aggregates[0].Func != api.AggCount || outside(x.Threshold, 1, 1024)
	})
	return l
}

func backupRules(c api.Catalogue, x api.Backup) (l rules) {
	l.add(api.ErrInvalid, func() bool { return len(x.Tables) == 0 || outside(x.Keep, 1, api.MaxDay) })
	for i, table := range x.Tables {
		l.add(api.ErrReference, func() bool { return tableNamed(c, table, maxInt) < 0 })
		l.add(api.ErrDuplicate, func() bool { return slices.Contains(x.Tables[:i], table) })
	}
	return l
}

// allRules returns the rules behind those about the name, for each declaration.
func allRules(c api.Catalogue) []rules {
	var all []rules
	for i := range c.Tables {
		all = append(all, tableRules(c, i))
	}
	for i := range c.Views {
		all = append(all, viewRules(c, len(c.Tables)+i))
	}
	for _, x := range c.Indexes {
		l := placeRules(c, x.Source, x.Column)
		l.add(api.ErrType, func() bool { return wantTypes(c, storeNamed(c, x.Source, maxInt))[x.Column] != api.KindText })
		all = append(all, l)
	}
	for _, x := range c.Sketches {
		all = append(all, sketchRules(c, x))
	}
	for _, x := range c.Caches {
		l := placeRules(c, x.Source, x.Column)
		l.add(api.ErrInvalid, func() bool { return outside(x.TTL, 1, api.MaxDay) })
		all = append(all, l)
	}
	for _, x := range c.Releases {
		all = append(all, releaseRules(c, x))
	}
	for _, x := range c.Streams {
		var l rules
		l.add(api.ErrReference, func() bool { return tableNamed(c, x.Table, maxInt) < 0 })
		all = append(all, l)
	}
	for _, x := range c.Backups {
		all = append(all, backupRules(c, x))
	}
	return all
}

// wantCheck is Check by the rules of the chapter, without ErrFull.
func wantCheck(c api.Catalogue) (int, api.Errno) {
	var earlier []string
	declared := names(&c)
	for i, l := range allRules(c) {
		name := *declared[i]
		if !lexer.IsName(name) {
			return i, api.ErrName
		}
		if slices.Contains(earlier, name) {
			return i, api.ErrDuplicate
		}
		if errno := l.first(); errno != api.OK {
			return i, errno
		}
		earlier = append(earlier, name)
	}
	return 0, api.OK
}

// maker makes catalogues; every maker with the same state makes the same ones.
type maker struct{ state uint64 }

func (m *maker) below(limit int) int {
	m.state = m.state*6364136223846793005 + 1442695040888963407
	return int((m.state >> 33) % uint64(limit))
}

func (m *maker) small() int { return m.below(10) - 1 }

func (m *maker) number() int {
	numbers := []int{minInt, -1, 0, 0, 1, 1, 2, 3, 7, 8, 9, 99, 100, 101, 128, 129, 1024, 1025, api.MaxDay, api.MaxDay + 1, maxInt}
	return numbers[m.below(len(numbers))]
}

// name makes a name, mostly one of c.
func (m *maker) name(c *api.Catalogue) string {
	if m.below(5) > 0 {
		return *names(c)[m.below(len(names(c)))]
	}
	others := strings.Fields("id mail age code name no who shop item via a b k c s m x d z A 1 aaaaaaaaaaaaaaaaa")
	return append(others, "")[m.below(len(others)+1)]
}

func (m *maker) expression() []api.Term {
	list := [][]api.Term{nil, n(1), n(0), s("a"), op(api.OpNot, col(m.small())), op(api.OpLength, col(m.small())), op(api.OpEqual, col(m.small()), col(m.small())), op(api.OpCoalesce, col(m.small()), s("")), op(api.OpIsNull, col(m.small())), op(api.OpAdd)}
	if m.below(2) == 0 {
		return col(m.small())
	}
	return list[m.below(len(list))]
}

func (m *maker) numbers() []int {
	var list []int
	for range m.below(4) {
		list = append(list, m.small())
	}
	if m.below(4) > 0 {
		slices.Sort(list)
		list = slices.Compact(list)
	}
	return list
}

// mutate changes something of c.
func (m *maker) mutate(c *api.Catalogue) {
	switch m.below(20) {
	case 0:
		*names(c)[m.below(len(names(c)))] = m.name(c)
	case 1, 2, 3, 4:
		m.mutateTable(c, &c.Tables[m.below(len(c.Tables))])
	case 5, 6, 7, 8, 9, 10:
		m.mutateView(c, &c.Views[m.below(len(c.Views))])
	case 11:
		x := &c.Indexes[m.below(2)]
		x.Source, x.Column = m.name(c), m.small()
	case 12:
		x := &c.Sketches[m.below(2)]
		x.Source, x.Column = m.name(c), m.small()
	case 13:
		x := &c.Sketches[m.below(2)]
		x.Kind, x.Width, x.Depth = m.small(), m.number(), m.small()
	case 14:
		x := &c.Caches[m.below(2)]
		x.Source, x.Column = m.name(c), m.small()
	case 15:
		c.Caches[m.below(2)].TTL = m.number()
	case 16:
		c.Releases[m.below(2)].Source = m.name(c)
	case 17:
		c.Releases[m.below(2)].Threshold = m.number()
	case 18:
		c.Streams[m.below(2)].Table = m.name(c)
	default:
		x := &c.Backups[m.below(2)]
		x.Tables = nil
		for range m.below(4) {
			x.Tables = append(x.Tables, m.name(c))
		}
		if m.below(4) == 0 {
			x.Keep = m.number()
		}
	}
}

func (m *maker) mutateTable(c *api.Catalogue, x *api.Table) {
	column := &x.Columns[m.below(len(x.Columns))]
	switch m.below(10) {
	case 0:
		x.Erase = m.small()
	case 1:
		x.Retain = m.number()
	case 2:
		column.Name = m.name(c)
	case 3:
		column.Type = m.small()
	case 4:
		column.Namespace = m.name(c)
	case 5:
		column.References = m.name(c)
	case 6:
		column.Owners = m.numbers()
	case 7:
		column.Joint = m.small()
	case 8:
		column.Duty = m.number()
	default:
		x.Columns = append(x.Columns, api.Column{Name: m.name(c), Type: api.KindInt, Namespace: m.name(c), Owners: m.numbers()})
	}
}

func (m *maker) mutateView(c *api.Catalogue, x *api.View) {
	switch m.below(12) {
	case 0:
		x.Kind = m.small()
	case 1, 2:
		x.Left = m.name(c)
	case 3, 4:
		x.Right = m.name(c)
	case 5:
		x.Right = ""
	case 6:
		x.On = append(x.On, [2]int{m.small(), m.small()})
	case 7:
		x.Where = m.expression()
	case 8:
		x.Items = append(x.Items, api.Item{Name: m.name(c), Expr: m.expression()})
	case 9:
		x.Aggregates = append(x.Aggregates, api.Aggregate{Name: m.name(c), Func: m.small(), Expr: m.expression()})
	case 10:
		x.Distinct = m.below(2) == 0
	default:
		x.Kind = api.ViewUnion
		x.On, x.Where, x.Items, x.Aggregates, x.Distinct = nil, nil, nil, nil, false
	}
}

// P4.1 to P4.4 and the consequences of the chapter, for many catalogues.
func TestLaws(t *testing.T) {
	m := &maker{}
	found := map[api.Errno]int{}
	for i := range 30000 {
		c := base()
		for range 1 + m.below(5) {
			m.mutate(&c)
		}
		at, errno := wantCheck(c)
		found[errno]++
		checkErrno(t, i, c, at, errno)
		if errno == api.OK {
			checkStores(t, c)
		}
		if t.Failed() {
			t.Fatalf("the catalogue is %v", c)
		}
	}
	for _, errno := range []api.Errno{api.OK, api.ErrInvalid, api.ErrName, api.ErrDuplicate, api.ErrType, api.ErrReference} {
		if found[errno] < 500 {
			t.Errorf("only %d catalogues with the error %d", found[errno], errno)
		}
	}
}

// checkStores checks what is said of the stores of a valid catalogue.
func checkStores(t *testing.T, c api.Catalogue) {
	t.Helper()
	count := len(c.Tables) + len(c.Views)
	derived := make([][]bool, count)
	for store := range count {
		if got := Names(c, store); !slices.Equal(got, wantNames(c, store)) {
			t.Errorf("P4.2: Names of %d = %v", store, got)
		}
		types := Types(c, store)
		if !slices.Equal(types, wantTypes(c, store)) {
			t.Errorf("P4.2: Types of %d = %v", store, types)
		}
		for _, kind := range types {
			if kind != api.KindInt && kind != api.KindText {
				t.Errorf("P4.2: Types of %d = %v", store, types)
			}
		}
		derived[store] = make([]bool, count)
		var sources []int
		if store >= len(c.Tables) {
			v := c.Views[store-len(c.Tables)]
			for source := range store {
				name := *names(&c)[source]
				if name == v.Left || name == v.Right {
					sources = append(sources, source)
					derived[store][source] = true
					for i, also := range derived[source] {
						derived[store][i] = derived[store][i] || also
					}
				}
			}
		}
		if got := Sources(c, store); !slices.Equal(got, sources) {
			t.Errorf("P4.3: Sources of %d = %v, want %v", store, got, sources)
		}
		if got := Find(c, *names(&c)[store]); got != store {
			t.Errorf("P4.2: Find of the name of %d = %d", store, got)
		}
	}
	for store := range count {
		var want []int
		for view := range count {
			if derived[view][store] {
				want = append(want, view)
			}
		}
		if got := Dependents(c, store); !slices.Equal(got, want) {
			t.Errorf("P4.3: Dependents of %d = %v, want %v", store, got, want)
		}
	}
	for i, table := range c.Tables {
		checkColumnsOf(t, c, i, table)
	}
}

// checkColumnsOf checks the personal and the fixed columns of a table.
func checkColumnsOf(t *testing.T, c api.Catalogue, number int, table api.Table) {
	t.Helper()
	var personal, fixed []int
	for i, column := range table.Columns {
		if len(column.Owners) > 0 {
			personal = append(personal, i)
		}
		tells := slices.ContainsFunc(table.Columns, func(x api.Column) bool { return slices.Contains(x.Owners, i) })
		if i == 0 || tells {
			fixed = append(fixed, i)
		}
	}
	if got := Personal(c, number); !slices.Equal(got, personal) {
		t.Errorf("P4.4: Personal of %d = %v, want %v", number, got, personal)
	}
	if got := Fixed(c, number); !slices.Equal(got, fixed) {
		t.Errorf("P4.4: Fixed of %d = %v, want %v", number, got, fixed)
	}
}
