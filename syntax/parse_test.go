package syntax

import (
	"reflect"
	"slices"
	"strings"
	"testing"

	"erasure/api"
	"erasure/lexer"
)

// P5.1: all parts of the grammar.
func TestParse(t *testing.T) {
	checkParse(t, everything, everyCatalogue())
	checkParse(t, Format(everyCatalogue()), everyCatalogue())
	for _, src := range []string{"", " \t\r\n", "# table", "# table\n"} {
		checkParse(t, src, api.Catalogue{})
	}
}

// P5.1: the example of the chapter.
func TestParseExample(t *testing.T) {
	person := []api.Column{{Name: "id", Type: api.KindInt, Namespace: "person"}, {Name: "mail", Type: api.KindText, Owners: []int{0}}}
	checkParse(t, "table person ( id int namespace person , mail text personal by id ) ;", api.Catalogue{Tables: []api.Table{{Name: "person", Columns: person}}})
	checkError(t, "view v select x = y from ^t ;", api.ErrReference)
}

func tableOf(columns ...api.Column) api.Catalogue {
	return api.Catalogue{Tables: []api.Table{{Name: "t", Columns: columns}}}
}

// P5.1: what a column says, in particular with names that are words of the grammar.
func TestParseColumns(t *testing.T) {
	a := api.Column{Name: "a", Type: api.KindInt}
	b := api.Column{Name: "b", Type: api.KindText, Namespace: "x"}
	duty := api.Column{Name: "duty", Type: api.KindText, Namespace: "y"}
	owned := func(duty, joint int, owners ...int) api.Column {
		return api.Column{Name: "c", Type: api.KindInt, Owners: owners, Joint: joint, Duty: duty}
	}
	for list, want := range map[string][]api.Column{
		"a int":        {a},
		"a int duty 0": {a},
		"int int, text text, duty int, personal int, all int, by int, row int, table text":           {{Name: "int", Type: api.KindInt}, {Name: "text", Type: api.KindText}, {Name: "duty", Type: api.KindInt}, {Name: "personal", Type: api.KindInt}, {Name: "all", Type: api.KindInt}, {Name: "by", Type: api.KindInt}, {Name: "row", Type: api.KindInt}, {Name: "table", Type: api.KindText}},
		"a int, b text namespace namespace":                                                          {a, {Name: "b", Type: api.KindText, Namespace: "namespace"}},
		"a int, b text namespace personal personal by b":                                             {a, {Name: "b", Type: api.KindText, Namespace: "personal", Owners: []int{1}}},
		"a int, b text namespace duty":                                                               {a, {Name: "b", Type: api.KindText, Namespace: "duty"}},
		"a int, b text namespace x, c int personal by b":                                             {a, b, owned(0, api.JointAny, 1)},
		"a int, b text namespace x, c int personal by b b b duty 0":                                  {a, b, owned(0, api.JointAny, 1)},
		"a int, b text namespace x, c int personal all by b duty 1048576":                            {a, b, owned(api.MaxDay, api.JointAll, 1)},
		"a int, b text namespace x, duty text namespace y, c int personal by duty":                   {a, b, duty, owned(0, api.JointAny, 2)},
		"a int, b text namespace x, duty text namespace y, c int personal by duty b":                 {a, b, duty, owned(0, api.JointAny, 1, 2)},
		"a int, b text namespace x, duty text namespace y, c int personal by b duty":                 {a, b, duty, owned(0, api.JointAny, 1, 2)},
		"a int, b text namespace x, duty text namespace y, c int personal by duty duty 3":            {a, b, duty, owned(3, api.JointAny, 2)},
		"a int, b text namespace x, duty text namespace y, c int personal by duty duty":              {a, b, duty, owned(0, api.JointAny, 2)},
		"a int, b text namespace x, duty text namespace y, c int personal all by duty b duty duty 3": {a, b, duty, owned(3, api.JointAll, 1, 2)},
	} {
		checkParse(t, "table t ( "+list+" ) ;", tableOf(want...))
	}
	all := api.Column{Name: "all", Type: api.KindInt, Namespace: "x"}
	by := api.Column{Name: "by", Type: api.KindInt, Namespace: "x"}
	c := tableOf(a, all, by, api.Column{Name: "c", Type: api.KindInt, Owners: []int{1, 2}})
	checkParse(t, "table t ( a int , all int namespace x , by int namespace x , c int personal by by all ) ;", c)
	c.Tables[0].Columns[3].Joint = api.JointAll
	checkParse(t, "table t ( a int , all int namespace x , by int namespace x , c int personal all by all by ) ;", c)
}

// P5.1: what a table says behind its columns.
func TestParseTables(t *testing.T) {
	for end, want := range map[string][2]int{
		"":                         {api.EraseCells, 0},
		"erase row":                {api.EraseRow, 0},
		"retain 7":                 {api.EraseCells, 7},
		"retain 0":                 {api.EraseCells, 0},
		"erase row retain 1048576": {api.EraseRow, api.MaxDay},
	} {
		c := tableOf(api.Column{Name: "a", Type: api.KindInt})
		c.Tables[0].Erase, c.Tables[0].Retain = want[0], want[1]
		checkParse(t, "table t ( a int ) "+end+" ;", c)
	}
}

// P5.1: views, in particular with names that are words of the grammar.
func TestParseViews(t *testing.T) {
	const base = "table t ( a int , not int , from text , with int , right int ) ; table join ( on int , where text ) ; table on ( a int ) ;"
	before, _, _ := Parse(base)
	item := func(name string, e []api.Term) []api.Item { return []api.Item{{Name: name, Expr: e}} }
	count := []api.Aggregate{{Name: "with"}}
	for src, want := range map[string]api.View{
		"select x = a from t":                                          {Left: "t", Items: item("x", col(0))},
		"select distinct x = a from t":                                 {Left: "t", Distinct: true, Items: item("x", col(0))},
		"select distinct = a from t":                                   {Left: "t", Items: item("distinct", col(0))},
		"select distinct distinct = a from t":                          {Left: "t", Distinct: true, Items: item("distinct", col(0))},
		"select from = from from t":                                    {Left: "t", Items: item("from", col(2))},
		"select not = left.not from t":                                 {Left: "t", Items: item("not", col(1))},
		"select x = not not a from t":                                  {Left: "t", Items: item("x", op(api.OpNot, op(api.OpNot, col(0))))},
		"select select = a = a, from = 1 from t":                       {Left: "t", Items: []api.Item{{Name: "select", Expr: op(api.OpEqual, col(0), col(0))}, {Name: "from", Expr: n(1)}}},
		"select x = right from t":                                      {Left: "t", Items: item("x", col(4))},
		"select x = right + right.on from t join join":                 {Left: "t", Right: "join", Items: item("x", op(api.OpAdd, col(4), col(5)))},
		"select x = 1 from join join join on on = on":                  {Left: "join", Right: "join", On: [][2]int{{0, 0}}, Items: item("x", n(1))},
		"select x = 1 from join join on on on = a where where = where": {Left: "join", Right: "on", On: [][2]int{{0, 0}}, Where: op(api.OpEqual, col(1), col(1)), Items: item("x", n(1))},
		"select x = 1 from t join on where right.a < a":                {Left: "t", Right: "on", Where: op(api.OpLess, col(5), col(0)), Items: item("x", n(1))},
		"select x = 1 from t join t on not = right, a = with":          {Left: "t", Right: "t", On: [][2]int{{1, 4}, {0, 3}}, Items: item("x", n(1))},
		"group with with = count from t":                               {Kind: api.ViewGroup, Left: "t", Aggregates: count},
		"group with = a with x = count from t":                         {Kind: api.ViewGroup, Left: "t", Items: item("with", col(0)), Aggregates: []api.Aggregate{{Name: "x"}}},
		"group x = with with with = count from t":                      {Kind: api.ViewGroup, Left: "t", Items: item("x", col(3)), Aggregates: count},
		"group with = with, count = 1 with sum = sum(with), min = min(from), from = max(from), x = median(a) from t": {Kind: api.ViewGroup, Left: "t",
			Items:      []api.Item{{Name: "with", Expr: col(3)}, {Name: "count", Expr: n(1)}},
			Aggregates: []api.Aggregate{{Name: "sum", Func: api.AggSum, Expr: col(3)}, {Name: "min", Func: api.AggMin, Expr: col(2)}, {Name: "from", Func: api.AggMax, Expr: col(2)}, {Name: "x", Func: api.AggMedian, Expr: col(0)}}},
		"group with x = count, y = count from on where a": {Kind: api.ViewGroup, Left: "on", Aggregates: []api.Aggregate{{Name: "x"}, {Name: "y"}}, Where: col(0)},
		"union on on": {Kind: api.ViewUnion, Left: "on", Right: "on"},
	} {
		want.Name = "view"
		c := before
		c.Views = []api.View{want}
		checkParse(t, base+"view view "+src+";", c)
	}
}

// P5.1: columns of views that later views and other declarations name.
func TestParseColumnsOfViews(t *testing.T) {
	src := "cache c on u . y for 1 ; table t ( a int , b text ) ; view g group x = b with y = count , z = max ( b ) from t ; view u union g g ; view v select z = z , y = right . z from u join g on y = y ; index i on v . y ; sketch s count 1 1 on g . z ;"
	c, _, errno := Parse(src)
	if errno != api.OK {
		t.Fatalf("P5.1: Parse(%q) = %d", src, errno)
	}
	v := c.Views[2]
	if !same(v.Items, []api.Item{{Name: "z", Expr: col(2)}, {Name: "y", Expr: col(5)}}) || !slices.Equal(v.On, [][2]int{{1, 1}}) {
		t.Errorf("P5.1: the view of views is %v", v)
	}
	if c.Caches[0].Column != 1 || c.Indexes[0].Column != 1 || c.Sketches[0].Column != 2 {
		t.Errorf("P5.1: the columns are %v, %v, %v", c.Caches, c.Indexes, c.Sketches)
	}
}

// P5.1: a source that is as large as the limits allow.
func TestParseLargest(t *testing.T) {
	const person = "table person ( id int ) ; "
	table := tableOf(api.Column{Name: "id", Type: api.KindInt})
	table.Tables[0].Name = "person"
	src := person + strings.Repeat(" ", api.MaxSource-len(person))
	checkParse(t, src, table)
	checkError(t, src+" ", api.ErrFull)
	around := func(e string, parentheses int) string {
		return person + "view v select x = " + strings.Repeat("(", parentheses) + e + strings.Repeat(")", parentheses) + " from person ;"
	}
	for _, e := range []string{"-" + balanced(api.MaxTerms/2), strings.Repeat("-", api.MaxNest-1) + "id"} {
		tokens, _, _ := lexer.Scan(around(e, 0))
		free := (api.MaxTokens - len(tokens)) / 2
		if c, _, errno := Parse(around(e, free)); errno != api.OK || len(c.Views) != 1 {
			t.Errorf("P5.1: a large expression in many parentheses gives the error %d", errno)
		}
		if _, _, errno := Parse(around(e, free+1)); errno != api.ErrFull {
			t.Errorf("P5.1: a source with too many tokens gives the error %d", errno)
		}
		checkError(t, strings.Replace(around("-"+e, 1), "view", "^view", 1), api.ErrInvalid)
	}
}

// balanced is a sum with so many references, with the least depth.
func balanced(references int) string {
	if references == 1 {
		return "id"
	}
	return "(" + balanced(references/2) + "+" + balanced(references-references/2) + ")"
}

// Rule 3: nothing is shared between the results of two calls, or between the lists of one result.
func TestParseIsNew(t *testing.T) {
	first, _, _ := Parse(everything)
	overwrite(reflect.ValueOf(&first).Elem())
	second, _, _ := Parse(everything)
	if !same(second, everyCatalogue()) {
		t.Errorf("rule 3: a second result differs: %+v", second)
	}
	lists := map[uintptr]bool{}
	third, _, _ := Parse(everything)
	checkLists(t, reflect.ValueOf(third), lists)
}

// overwrite changes every number and text of a value.
func overwrite(v reflect.Value) {
	switch v.Kind() {
	case reflect.Struct:
		for i := range v.NumField() {
			overwrite(v.Field(i))
		}
	case reflect.Slice, reflect.Array:
		for i := range v.Len() {
			overwrite(v.Index(i))
		}
	case reflect.Int, reflect.Int64:
		v.SetInt(99)
	case reflect.String:
		v.SetString("overwritten")
	}
}

// checkLists checks that the lists of a value begin at different addresses.
func checkLists(t *testing.T, v reflect.Value, lists map[uintptr]bool) {
	t.Helper()
	switch v.Kind() {
	case reflect.Struct:
		for i := range v.NumField() {
			checkLists(t, v.Field(i), lists)
		}
	case reflect.Slice:
		if v.Len() == 0 {
			return
		}
		if lists[v.Pointer()] {
			t.Errorf("rule 3: two lists of type %v share their memory", v.Type())
		}
		lists[v.Pointer()] = true
		for i := range v.Len() {
			checkLists(t, v.Index(i), lists)
		}
	}
}
