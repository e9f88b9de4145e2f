package syntax

import (
	"math/rand"
	"slices"
	"strconv"
	"strings"
	"testing"

	"erasure/api"
	"erasure/catalogue"
	"erasure/expr"
	"erasure/value"
)

// maker makes expressions and catalogues, and sources of them that differ from the ones that are formatted.
type maker struct{ *rand.Rand }

// names are names of which most are words of the grammar.
func (m maker) names(count int) []string {
	all := strings.Fields("a b c table view index sketch cache release stream backup int text namespace references personal all by duty erase row retain select distinct group with union count sum min max median from join on where bloom bottom for of above keep or and not length isnull prefix coalesce if left right")
	m.Shuffle(len(all), func(i, j int) { all[i], all[j] = all[j], all[i] })
	return all[:count]
}

func (m maker) pick(words ...string) string { return words[m.Intn(len(words))] }

func (m maker) constant(kind int) []api.Term {
	if kind == api.KindText {
		return s(m.pick("", "a", "or", "\"\\\x00\xff", "# ;", strings.Repeat("x", api.MaxText)))
	}
	return n([]int64{0, 1, -1, 7, api.MaxNumber, -api.MaxNumber}[m.Intn(6)])
}

// operandKinds are the kinds of the operands of an operator, where 0 is the kind that is wanted of OpCoalesce and OpIf, and -1 any kind, but the same for all.
func operandKinds(o int) []int {
	const i, t = api.KindInt, api.KindText
	return [][]int{
		api.OpNegate: {i}, api.OpAdd: {i, i}, api.OpSubtract: {i, i}, api.OpMultiply: {i, i}, api.OpDivide: {i, i},
		api.OpConcat: {t, t}, api.OpLength: {t}, api.OpPrefix: {t, i}, api.OpEqual: {-1, -1}, api.OpLess: {-1, -1},
		api.OpNot: {i}, api.OpAnd: {i, i}, api.OpOr: {i, i}, api.OpIsNull: {-1}, api.OpCoalesce: {0, 0}, api.OpIf: {i, 0, 0},
	}[o]
}

// expression makes an expression of a kind over columns of the given types.
func (m maker) expression(kind, depth int, types []int) []api.Term {
	if depth == 1 || m.Intn(6) == 0 {
		if column := m.Intn(len(types)); types[column] == kind {
			return col(column)
		}
		return m.constant(kind)
	}
	o := []int{api.OpConcat, api.OpPrefix, api.OpCoalesce, api.OpIf}[m.Intn(4)]
	for kind == api.KindInt && (o == api.OpConcat || o == api.OpPrefix) {
		o = api.OpNegate + m.Intn(api.OpIf-api.OpNegate+1)
	}
	same := 1 + m.Intn(2)
	var operands [][]api.Term
	for _, k := range operandKinds(o) {
		switch k {
		case 0:
			k = kind
		case -1:
			k = same
		}
		operands = append(operands, m.expression(k, depth-1, types))
	}
	return op(o, operands...)
}

// The levels of the grammar of expressions, from the outermost one.
const (
	levelOr = iota
	levelAnd
	levelComparison
	levelSum
	levelProduct
	levelFactor
	levelAtom
)

// loose returns a source of the expression with which e begins, with few parentheses, at a level of the grammar, and the rest of e.
func (m maker) loose(e []api.Term, level int, names sides) (string, []api.Term) {
	text, own, rest := m.looseOperator(e, names)
	if own < level || m.Intn(10) == 0 {
		text = "( " + text + " )"
	}
	return text, rest
}

// looseOperator returns a source, its level, and the rest of e.
func (m maker) looseOperator(e []api.Term, names sides) (string, int, []api.Term) {
	first, rest := e[0], e[1:]
	var a, b string
	binary := func(sign string, own, left, right int) (string, int, []api.Term) {
		a, rest = m.loose(rest, left, names)
		b, rest = m.loose(rest, right, names)
		return a + " " + sign + " " + b, own, rest
	}
	switch first.Op {
	case api.OpConst:
		text := strings.Replace(value.Format(first.Value), "-", "- ", 1)
		if first.Value.Kind == api.KindText {
			text = value.Format(first.Value)
		}
		if first.Value.Int < 0 {
			return text, levelFactor, rest
		}
		return text, levelAtom, rest
	case api.OpColumn:
		return m.looseColumn(first.Column, names), levelAtom, rest
	case api.OpOr:
		return binary("or", levelOr, levelOr, levelAnd)
	case api.OpAnd:
		return binary("and", levelAnd, levelAnd, levelComparison)
	case api.OpEqual:
		return binary("=", levelComparison, levelSum, levelSum)
	case api.OpLess:
		return binary("<", levelComparison, levelSum, levelSum)
	case api.OpAdd:
		return binary("+", levelSum, levelSum, levelProduct)
	case api.OpSubtract:
		return binary("-", levelSum, levelSum, levelProduct)
	case api.OpConcat:
		return binary("++", levelSum, levelSum, levelProduct)
	case api.OpMultiply:
		return binary("*", levelProduct, levelProduct, levelFactor)
	case api.OpDivide:
		return binary("/", levelProduct, levelProduct, levelFactor)
	case api.OpNegate:
		a, rest = m.loose(rest, levelFactor, names)
		if '0' <= a[0] && a[0] <= '9' {
			a = "( " + a + " )"
		}
		return "- " + a, levelFactor, rest
	case api.OpNot:
		if rest[0].Op == api.OpLess && m.Intn(2) == 0 {
			b, rest = m.loose(rest[1:], levelSum, names)
			a, rest = m.loose(rest, levelSum, names)
			return a + " <= " + b, levelComparison, rest
		}
		a, rest = m.loose(rest, levelFactor, names)
		return "not " + a, levelFactor, rest
	}
	text := operatorWords[first.Op] + " ( "
	for i := range expr.Arity(first.Op) {
		if i > 0 {
			text += " , "
		}
		a, rest = m.loose(rest, levelOr, names)
		text += a
	}
	return text + " )", levelAtom, rest
}

func (m maker) looseColumn(column int, names sides) string {
	if column >= len(names.left) {
		return "right . " + names.right[column-len(names.left)]
	}
	if name := names.left[column]; name == "not" || m.Intn(3) == 0 {
		return "left . " + name
	}
	return names.left[column]
}

// spread replaces the spaces between the tokens of a source by other white space, comments or, where it is not needed, nothing.
func (m maker) spread(src string) string {
	var result strings.Builder
	last := ""
	for _, token := range texts(src) {
		if m.Intn(2) == 0 || !slices.Equal(texts(last+token), []string{last, token}) {
			result.WriteString(m.pick(" ", "\t", "\r\n", "  ", " # not a token \"\n"))
		}
		result.WriteString(token)
		last = token
	}
	return result.String() + m.pick("", " ", "\n# end")
}

// wantText is the text of the expression with which e begins, by P5.4, and the rest of e.
func wantText(e []api.Term, names sides) (string, []api.Term) {
	first, rest := e[0], e[1:]
	switch first.Op {
	case api.OpConst:
		if first.Value.Int < 0 {
			return "- " + strconv.FormatInt(-first.Value.Int, 10), rest
		}
		return value.Format(first.Value), rest
	case api.OpColumn:
		if first.Column >= len(names.left) {
			return "right . " + names.right[first.Column-len(names.left)], rest
		}
		if names.left[first.Column] == "not" {
			return "left . not", rest
		}
		return names.left[first.Column], rest
	}
	var operands []string
	functions := []int{api.OpLength, api.OpPrefix, api.OpIsNull, api.OpCoalesce, api.OpIf}
	function := slices.Contains(functions, first.Op)
	for range expr.Arity(first.Op) {
		head := rest[0]
		var text string
		text, rest = wantText(rest, names)
		number := head.Op == api.OpConst && head.Value.Kind == api.KindInt
		atom := head.Op == api.OpConst && head.Value.Int >= 0 || head.Op == api.OpColumn || slices.Contains(functions, head.Op)
		if !function && (!atom || first.Op == api.OpNegate && number) {
			text = "( " + text + " )"
		}
		operands = append(operands, text)
	}
	word := operatorWords[first.Op]
	switch {
	case function:
		return word + " ( " + strings.Join(operands, " , ") + " )", rest
	case len(operands) == 1:
		return word + " " + operands[0], rest
	default:
		return operands[0] + " " + word + " " + operands[1], rest
	}
}

// P5.3, P5.4 and the consequence of the chapter for expressions.
func TestLawsOfExpressions(t *testing.T) {
	m := maker{rand.New(rand.NewSource(1))}
	for range 20000 {
		names := sides{m.names(1 + m.Intn(6)), m.names(m.Intn(4))}
		var types []int
		for range len(names.left) + len(names.right) {
			types = append(types, 1+m.Intn(2))
		}
		e := m.expression(1+m.Intn(2), 1+m.Intn(5), types)
		if !expr.Valid(e) {
			continue // too long
		}
		text := FormatExpr(e, names.left, names.right)
		want, _ := wantText(e, names)
		if text != want {
			t.Fatalf("P5.4: FormatExpr(%v, %q) = %q, want %q", e, names, text, want)
		}
		loose, _ := m.loose(e, levelOr, names)
		for _, src := range []string{text, loose, m.spread(loose)} {
			got, at, errno := ParseExpr(src, names.left, names.right)
			if !slices.Equal(got, e) || at != 0 || errno != api.OK {
				t.Fatalf("P5.3: ParseExpr(%q, %q) = %v, %d, %d, want %v", src, names, got, at, errno, e)
			}
		}
	}
}

// catalogue makes a valid catalogue, but for expressions that are too long.
func (m maker) catalogue() api.Catalogue {
	names := m.names(18)
	next := func() string { names = names[1:]; return names[0] }
	var c api.Catalogue
	for range 1 + m.Intn(3) {
		c.Tables = append(c.Tables, m.table(c, next()))
	}
	for range m.Intn(4) {
		c.Views = append(c.Views, m.view(c, next()))
	}
	store := func() string { return storeName(c, m.Intn(len(c.Tables)+len(c.Views))) }
	column := func(name string) int { return m.Intn(len(catalogue.Names(c, catalogue.Find(c, name)))) }
	table := func() string { return c.Tables[m.Intn(len(c.Tables))].Name }
	if !catalogue.Valid(c) {
		return c
	}
	for range m.Intn(3) {
		x := api.Sketch{Name: next(), Source: store(), Kind: m.Intn(3), Width: 1 + m.Intn(api.MaxCells), Depth: 1}
		x.Column = column(x.Source)
		c.Sketches = append(c.Sketches, x)
		y := api.Index{Name: next(), Source: store()}
		y.Column = column(y.Source)
		if catalogue.Types(c, catalogue.Find(c, y.Source))[y.Column] == api.KindText {
			c.Indexes = append(c.Indexes, y)
		}
		z := api.Cache{Name: next(), Source: store(), TTL: 1 + m.Intn(api.MaxDay)}
		z.Column = column(z.Source)
		c.Caches = append(c.Caches, z)
	}
	for _, v := range c.Views {
		if v.Kind == api.ViewGroup && v.Aggregates[0].Func == api.AggCount {
			c.Releases = append(c.Releases, api.Release{Name: next(), Source: v.Name, Threshold: 1 + m.Intn(1024)})
		}
	}
	c.Streams = append(c.Streams, api.Stream{Name: next(), Table: table()})
	c.Backups = append(c.Backups, api.Backup{Name: next(), Tables: []string{table()}, Keep: 1 + m.Intn(api.MaxDay)})
	return c
}

func storeName(c api.Catalogue, store int) string {
	if store < len(c.Tables) {
		return c.Tables[store].Name
	}
	return c.Views[store-len(c.Tables)].Name
}

// table makes a table that may reference those of c.
func (m maker) table(c api.Catalogue, name string) api.Table {
	t := api.Table{Name: name, Erase: api.EraseRow, Retain: []int{0, 9, api.MaxDay}[m.Intn(3)]}
	var tells []int // the columns that tell owners
	for i, columnName := range m.names(1 + m.Intn(6)) {
		column := api.Column{Name: columnName, Type: 1 + m.Intn(2)}
		switch m.Intn(3) {
		case 0:
			column.Namespace = m.names(1)[0]
			tells = append(tells, i)
		case 1:
			if len(c.Tables) > 0 {
				other := c.Tables[m.Intn(len(c.Tables))]
				column.References, column.Type = other.Name, other.Columns[0].Type
				column.Owners = []int{i}
				tells = append(tells, i)
			}
		}
		t.Columns = append(t.Columns, column)
	}
	for i := range t.Columns {
		column := &t.Columns[i]
		for _, owner := range tells {
			if m.Intn(2) == 0 {
				column.Owners = append(column.Owners, owner)
			}
		}
		slices.Sort(column.Owners)
		column.Owners = slices.Compact(column.Owners)
		if len(column.Owners) > 0 {
			column.Joint, column.Duty = m.Intn(2), m.Intn(10)
		}
	}
	if len(t.Columns[0].Owners) == 0 {
		t.Erase = m.Intn(2)
	}
	return t
}

// view makes a view of the stores of c.
func (m maker) view(c api.Catalogue, name string) api.View {
	stores := len(c.Tables) + len(c.Views)
	left := m.Intn(stores)
	v := api.View{Name: name, Kind: m.Intn(3), Left: storeName(c, left)}
	types := catalogue.Types(c, left)
	if len(types) == 0 {
		return v // c is not valid
	}
	if v.Kind == api.ViewUnion {
		v.Right = v.Left
		return v
	}
	if m.Intn(2) == 0 {
		right := m.Intn(stores)
		v.Right = storeName(c, right)
		others := catalogue.Types(c, right)
		for i := range min(len(types), len(others)) {
			if types[i] == others[i] && m.Intn(2) == 0 {
				v.On = append(v.On, [2]int{i, i})
			}
		}
		types = append(types, others...)
	}
	if m.Intn(2) == 0 {
		v.Where = m.expression(api.KindInt, 1+m.Intn(4), types)
	}
	names := m.names(6)
	for i := range 1 + m.Intn(3) {
		v.Items = append(v.Items, api.Item{Name: names[i], Expr: m.expression(1+m.Intn(2), 1+m.Intn(4), types)})
	}
	if v.Kind == api.ViewSelect {
		v.Distinct = m.Intn(2) == 0
		return v
	}
	v.Items = v.Items[m.Intn(len(v.Items)+1):]
	for i := range 1 + m.Intn(3) {
		a := api.Aggregate{Name: names[3+i], Func: m.Intn(5)}
		if a.Func != api.AggCount {
			a.Expr = m.expression(api.KindInt, 1+m.Intn(3), types)
		}
		v.Aggregates = append(v.Aggregates, a)
	}
	return v
}

// looseSource returns a source of a valid catalogue in which the declarations of the kinds are mixed, and what can be written in several ways is.
func (m maker) looseSource(c api.Catalogue) string {
	lists := make([][]string, 3)
	for _, line := range strings.SplitAfter(Format(c), ";\n") {
		kind := 2
		switch {
		case line == "":
			continue
		case strings.HasPrefix(line, "table "):
			line, kind = m.looseTable(c.Tables[len(lists[0])]), 0
		case strings.HasPrefix(line, "view "):
			line, kind = m.looseView(c, c.Views[len(lists[1])]), 1
		}
		lists[kind] = append(lists[kind], line)
	}
	var src string
	for len(lists[0])+len(lists[1])+len(lists[2]) > 0 {
		if kind := m.Intn(3); len(lists[kind]) > 0 {
			src += lists[kind][0]
			lists[kind] = lists[kind][1:]
		}
	}
	return m.spread(src)
}

func (m maker) looseTable(t api.Table) string {
	var columns []string
	for _, column := range t.Columns {
		text := column.Name + []string{"", " int", " text"}[column.Type]
		if column.Namespace != "" {
			text += " namespace " + column.Namespace
		}
		if column.References != "" {
			text += " references " + column.References
		}
		if len(column.Owners) > 0 {
			owners := append(slices.Clone(column.Owners), column.Owners[:m.Intn(len(column.Owners)+1)]...)
			text += []string{" personal by", " personal all by"}[column.Joint]
			m.Shuffle(len(owners), func(i, j int) { owners[i], owners[j] = owners[j], owners[i] })
			for _, owner := range owners {
				text += " " + t.Columns[owner].Name
			}
		}
		if column.Duty > 0 || m.Intn(2) == 0 {
			text += " duty " + strconv.Itoa(column.Duty)
		}
		columns = append(columns, text)
	}
	text := "table " + t.Name + " ( " + strings.Join(columns, " , ") + " )" + []string{"", " erase row"}[t.Erase]
	if t.Retain > 0 || m.Intn(2) == 0 {
		text += " retain " + strconv.Itoa(t.Retain)
	}
	return text + " ;\n"
}

func (m maker) looseView(c api.Catalogue, v api.View) string {
	names := sides{catalogue.Names(c, catalogue.Find(c, v.Left)), catalogue.Names(c, catalogue.Find(c, v.Right))}
	loose := func(e []api.Term) string { text, _ := m.loose(e, levelOr, names); return text }
	if v.Kind == api.ViewUnion {
		return "view " + v.Name + " union " + v.Left + " " + v.Right + " ;\n"
	}
	var items, aggregates, pairs []string
	for _, item := range v.Items {
		items = append(items, item.Name+" = "+loose(item.Expr))
	}
	for _, a := range v.Aggregates {
		text := a.Name + " = " + []string{"count", "sum", "min", "max", "median"}[a.Func]
		if a.Func != api.AggCount {
			text += " ( " + loose(a.Expr) + " )"
		}
		aggregates = append(aggregates, text)
	}
	for _, pair := range v.On {
		pairs = append(pairs, names.left[pair[0]]+" = "+names.right[pair[1]])
	}
	text := "view " + v.Name + []string{" select ", " group "}[v.Kind]
	if v.Distinct {
		text += "distinct "
	}
	text += strings.Join(items, " , ")
	if v.Kind == api.ViewGroup {
		text += " with " + strings.Join(aggregates, " , ")
	}
	text += " from " + v.Left
	if v.Right != "" {
		text += " join " + v.Right
	}
	if len(v.On) > 0 {
		text += " on " + strings.Join(pairs, " , ")
	}
	if len(v.Where) > 0 {
		text += " where " + loose(v.Where)
	}
	return text + " ;\n"
}

// P5.1, P5.2 and the consequences of the chapter for catalogues.
func TestLawsOfCatalogues(t *testing.T) {
	m := maker{rand.New(rand.NewSource(2))}
	valid := 0
	for range 5000 {
		c := m.catalogue()
		text := Format(c)
		if !catalogue.Valid(c) {
			if text != "" {
				t.Fatalf("P5.2: Format(%+v) = %q", c, text)
			}
			continue
		}
		valid++
		for _, src := range []string{text, m.looseSource(c)} {
			got, at, errno := Parse(src)
			if !same(got, c) || at != 0 || errno != api.OK {
				t.Fatalf("P5.1: Parse(%q):\n got %+v, %d, %d\nwant %+v", src, got, at, errno, c)
			}
		}
	}
	if valid < 3000 {
		t.Errorf("only %d valid catalogues", valid)
	}
}

// Rule 3: arguments are not modified.
func TestArguments(t *testing.T) {
	c := everyCatalogue()
	Format(c)
	if !same(c, everyCatalogue()) {
		t.Error("rule 3: Format changes the catalogue")
	}
	e, left, right := op(api.OpNot, op(api.OpLess, col(9), col(0))), leftNames(), rightNames()
	text := FormatExpr(e, left, right)
	ParseExpr(text, left, right)
	if !slices.Equal(e, op(api.OpNot, op(api.OpLess, col(9), col(0)))) || !slices.Equal(left, leftNames()) || !slices.Equal(right, rightNames()) {
		t.Error("rule 3: FormatExpr or ParseExpr changes its arguments")
	}
}
