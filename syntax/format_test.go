package syntax

import (
	"slices"
	"strings"
	"testing"

	"erasure/api"
	"erasure/catalogue"
)

// P5.2: the text of a catalogue with all kinds of declarations.
func TestFormat(t *testing.T) {
	want := `table person ( id int namespace person personal by id , mail text namespace mail personal all by id mail duty 7 , age int ) erase row retain 30 ;
table orders ( no int , who int references person personal by who , item text personal by who via duty 3 , via text namespace mail ) retain 9 ;
view bought select distinct who = right . mail , what = item , left = no from orders join person on who = id , via = mail where ( not isnull ( item ) ) and ( not ( 120 < right . age ) ) ;
view tally group with = who , size = length ( what ) with n = count , total = sum ( left ) , low = min ( what ) , high = max ( left + 1 ) , mid = median ( - left ) from bought where ( left < 10 ) or ( left = ( - 1 ) ) ;
view twice union bought bought ;
view all group with with = count from twice join person ;
index words on bought . what ;
index people on person . mail ;
sketch most count 16 2 on bought . who ;
sketch some bloom 8 1 on person . id ;
sketch few bottom 4 1 on tally . mid ;
cache recent on twice . who for 5 ;
release numbers of tally above 3 ;
stream log of orders ;
backup daily of orders , person keep 90 ;
`
	if got := Format(everyCatalogue()); got != want {
		t.Errorf("P5.2: Format:\n got %s\nwant %s", got, want)
	}
}

// P5.2: parts that are left out, and names that are words of the grammar.
func TestFormatParts(t *testing.T) {
	for _, src := range []string{
		"",
		"table t ( a int ) ;\n",
		"table t ( a int ) retain 1048576 ;\n",
		"table t ( a text namespace n personal by a ) erase row ;\n",
		"table t ( a text namespace n personal all by a duty 1 ) erase row retain 1 ;\n",
		"table t ( a int , duty int namespace duty personal by duty duty 1 , b int personal by duty , c int personal by duty duty 9 ) ;\n",
		"table table ( table int ) erase row ;\nview view select select = table from table join table where right . table ;\n",
		"table t ( not int , x int ) ;\nview v select distinct = left . not from t where left . not ;\nview w select distinct distinct = distinct from v join t on distinct = not where right . not and distinct ;\nview x group with = distinct with n = count from w ;\nview y group with with = count , n = max ( left . not ) from t ;\n",
		"table t ( a int ) ;\nview v select x = \"\\00\" from t ;\nview w select x = - 4294967296 from t join v where a = ( - 1 ) ;\n",
	} {
		c, at, errno := Parse(src)
		if got := Format(c); got != src || at != 0 || errno != api.OK {
			t.Errorf("P5.2: Format of Parse(%q) = %q, %d, %d", src, got, at, errno)
		}
	}
}

// P5.2: a catalogue with as much as the limits allow has a text, even if it is longer than a source may be.
func TestFormatLargest(t *testing.T) {
	name := func(i int) string { return "x" + strings.Repeat("y", api.MaxName-2) + string(rune('a'+i)) }
	c := api.Catalogue{}
	for i := range api.MaxTables {
		table := api.Table{Name: name(i)}
		for j := range api.MaxColumns {
			table.Columns = append(table.Columns, api.Column{Name: name(j), Type: api.KindText})
		}
		c.Tables = append(c.Tables, table)
	}
	long := s(strings.Repeat("\xff", api.MaxText))
	for range 5 {
		long = op(api.OpConcat, long, long)
	}
	for i := range api.MaxViews {
		view := api.View{Name: name(api.MaxTables + i), Left: name(i % api.MaxTables)}
		for j := range api.MaxColumns {
			view.Items = append(view.Items, api.Item{Name: name(j), Expr: long})
		}
		c.Views = append(c.Views, view)
	}
	text := Format(c)
	operand := `"` + strings.Repeat(`\ff`, api.MaxText) + `"`
	if got := strings.Count(text, operand); got != api.MaxViews*api.MaxColumns*32 {
		t.Errorf("P5.2: the text of %d bytes has %d texts", len(text), got)
	}
	if _, at, errno := Parse(text); at != 0 || errno != api.ErrFull {
		t.Errorf("P5.1: Parse of %d bytes = %d, %d", len(text), at, errno)
	}
}

// P5.2: catalogues that are not valid have no text.
func TestFormatInvalid(t *testing.T) {
	for i, change := range []func(c *api.Catalogue){
		func(c *api.Catalogue) { c.Tables[0].Name = "" },
		func(c *api.Catalogue) { c.Tables[0].Erase = 2 },
		func(c *api.Catalogue) { c.Tables[0].Columns[0].Type = 3 },
		func(c *api.Catalogue) { c.Tables[0].Columns[0].Type = -1 },
		func(c *api.Catalogue) { c.Tables[0].Columns[1].Owners = []int{7} },
		func(c *api.Catalogue) { c.Tables[0].Columns[1].Owners = []int{-1} },
		func(c *api.Catalogue) { c.Tables[0].Retain = -1 },
		func(c *api.Catalogue) { c.Views[0].Kind = 9 },
		func(c *api.Catalogue) { c.Views[0].Left = "nothing" },
		func(c *api.Catalogue) { c.Views[0].Right = "" },
		func(c *api.Catalogue) { c.Views[0].On[0][1] = 9 },
		func(c *api.Catalogue) { c.Views[0].On[0][0] = -1 },
		func(c *api.Catalogue) { c.Views[0].Where = col(99) },
		func(c *api.Catalogue) { c.Views[0].Items[0].Expr = nil },
		func(c *api.Catalogue) { c.Views[1].Aggregates[1].Func = 5 },
		func(c *api.Catalogue) { c.Views[1].Aggregates[1].Func = -1 },
		func(c *api.Catalogue) { c.Views[2].Right = "" },
		func(c *api.Catalogue) { c.Indexes[0].Column = 99 },
		func(c *api.Catalogue) { c.Sketches[0].Kind = 3 },
		func(c *api.Catalogue) { c.Sketches[0].Column = -1 },
		func(c *api.Catalogue) { c.Caches[0].Source = "" },
		func(c *api.Catalogue) { c.Releases[0].Source = "person" },
		func(c *api.Catalogue) { c.Streams[0].Table = "bought" },
		func(c *api.Catalogue) { c.Backups[0].Tables = nil },
		func(c *api.Catalogue) { c.Tables = slices.Repeat(c.Tables, 5) },
	} {
		c := everyCatalogue()
		change(&c)
		if got := Format(c); got != "" || catalogue.Valid(c) {
			t.Errorf("P5.2: case %d: Format = %q", i, got)
		}
	}
}
