package catalogue

import (
	"slices"
	"testing"

	"erasure/api"
)

// checkOrder checks changes of one declaration that stand in the order of the errors that they cause: of any two of them, the first one counts.
func checkOrder(t *testing.T, changes []change) {
	t.Helper()
	checkChanges(t, changes)
	for i, first := range changes {
		for j := i + 1; j < len(changes); j++ {
			c := base()
			// Some of the changes concern the same field, so that the one that counts comes last.
			changes[j].apply(&c)
			first.apply(&c)
			checkErrno(t, 100*i+j, c, first.at, first.want)
		}
	}
}

// P4.1: the order of the errors of a table and its columns.
func TestOrderOfTable(t *testing.T) {
	table := func(change func(x *api.Table)) func(c *api.Catalogue) {
		return func(c *api.Catalogue) { change(&c.Tables[orders]) }
	}
	checkOrder(t, []change{
		{orders, api.ErrName, table(func(x *api.Table) { x.Name = "Orders" })},
		{orders, api.ErrDuplicate, table(func(x *api.Table) { x.Name = "shop" })},
		{orders, api.ErrInvalid, table(func(x *api.Table) { x.Erase = 2 })},
		{orders, api.ErrName, table(func(x *api.Table) { x.Columns[1].Namespace = "A" })},
		{orders, api.ErrDuplicate, table(func(x *api.Table) { x.Columns[1].Name = "no" })},
		{orders, api.ErrReference, table(func(x *api.Table) { x.Columns[1].References = "nothing" })},
		{orders, api.ErrType, table(func(x *api.Table) { x.Columns[1].Type = 3 })},
		{orders, api.ErrInvalid, table(func(x *api.Table) { x.Columns[1].Joint = 2 })},
		{orders, api.ErrName, table(func(x *api.Table) { x.Columns[2].Name = "2" })},
		{orders, api.ErrDuplicate, table(func(x *api.Table) { x.Columns[2].Name = "no" })},
		{orders, api.ErrReference, table(func(x *api.Table) { x.Columns[2].References = "orders" })},
		{orders, api.ErrType, table(func(x *api.Table) { x.Columns[2].References, x.Columns[2].Type = "shop", api.KindInt })},
		{orders, api.ErrInvalid, table(func(x *api.Table) {
			x.Columns[2].References, x.Columns[2].Type, x.Columns[2].Duty = "shop", api.KindText, 1
		})},
		{orders, api.ErrType, table(func(x *api.Table) { x.Columns[4].Type = 0 })},
	})
}

// P4.1: the order of the errors of a view with groups.
func TestOrderOfView(t *testing.T) {
	view := func(change func(v *api.View)) func(c *api.Catalogue) {
		return func(c *api.Catalogue) {
			v := &c.Views[counts-bought]
			if v.Right == "" {
				v.Right, v.On = "bought", [][2]int{{0, 0}, {1, 1}}
			}
			change(v)
		}
	}
	checkOrder(t, []change{
		{counts, api.ErrName, view(func(v *api.View) { v.Name = "" })},
		{counts, api.ErrDuplicate, view(func(v *api.View) { v.Name = "bought" })},
		{counts, api.ErrInvalid, view(func(v *api.View) { v.Kind = 3 })},
		{counts, api.ErrReference, view(func(v *api.View) { v.Right = "counts" })},
		{counts, api.ErrInvalid, view(func(v *api.View) { v.Distinct = true })},
		{counts, api.ErrName, view(func(v *api.View) { v.On[0] = [2]int{9, 9} })},
		{counts, api.ErrType, view(func(v *api.View) { v.On[0] = [2]int{0, 1} })},
		{counts, api.ErrName, view(func(v *api.View) { v.On[1][0] = 2 })},
		{counts, api.ErrInvalid, view(func(v *api.View) { v.Where = slices.Concat(n(1), n(1)) })},
		{counts, api.ErrName, view(func(v *api.View) { v.Where = col(4) })},
		{counts, api.ErrType, view(func(v *api.View) { v.Where = col(2) })},
		{counts, api.ErrName, view(func(v *api.View) { v.Items[0].Name = "K" })},
		{counts, api.ErrInvalid, view(func(v *api.View) { v.Items[0].Expr = nil })},
		{counts, api.ErrName, view(func(v *api.View) { v.Aggregates[0].Name = "?" })},
		{counts, api.ErrDuplicate, view(func(v *api.View) { v.Aggregates[1].Name = "k" })},
		{counts, api.ErrInvalid, view(func(v *api.View) { v.Aggregates[1].Func = 5 })},
		{counts, api.ErrName, view(func(v *api.View) { v.Aggregates[1].Func, v.Aggregates[1].Expr = api.AggSum, col(4) })},
		{counts, api.ErrType, view(func(v *api.View) { v.Aggregates[1].Func, v.Aggregates[1].Expr = api.AggSum, col(2) })},
		{counts, api.ErrDuplicate, view(func(v *api.View) { v.Aggregates[4].Name = "m" })},
		{counts, api.ErrType, view(func(v *api.View) { v.Aggregates[4].Expr = op(api.OpNot, col(0)) })},
	})
	checkOrder(t, []change{
		{both, api.ErrReference, func(c *api.Catalogue) { c.Views[2].Left = "some" }},
		{both, api.ErrInvalid, func(c *api.Catalogue) { c.Views[2].Distinct = true }},
		{both, api.ErrType, func(c *api.Catalogue) { c.Views[2].Left = "shop" }},
	})
}

// P4.1: the order of the errors of the other declarations.
func TestOrderOfOthers(t *testing.T) {
	checkOrder(t, []change{
		{index2, api.ErrName, func(c *api.Catalogue) { c.Indexes[1].Name = "!" }},
		{index2, api.ErrDuplicate, func(c *api.Catalogue) { c.Indexes[1].Name = "index1" }},
		{index2, api.ErrReference, func(c *api.Catalogue) { c.Indexes[1].Source = "!" }},
		{index2, api.ErrName, func(c *api.Catalogue) { c.Indexes[1].Column = 99 }},
		{index2, api.ErrType, func(c *api.Catalogue) { c.Indexes[1].Source, c.Indexes[1].Column = "bought", 1 }},
	})
	checkOrder(t, []change{
		{sketch2, api.ErrDuplicate, func(c *api.Catalogue) { c.Sketches[1].Name = "sketch1" }},
		{sketch2, api.ErrReference, func(c *api.Catalogue) { c.Sketches[1].Source = "!" }},
		{sketch2, api.ErrName, func(c *api.Catalogue) { c.Sketches[1].Column = 99 }},
		{sketch2, api.ErrInvalid, func(c *api.Catalogue) { c.Sketches[1].Depth = 2 }},
	})
	checkOrder(t, []change{
		{cache2, api.ErrDuplicate, func(c *api.Catalogue) { c.Caches[1].Name = "cache1" }},
		{cache2, api.ErrReference, func(c *api.Catalogue) { c.Caches[1].Source = "!" }},
		{cache2, api.ErrName, func(c *api.Catalogue) { c.Caches[1].Column = 99 }},
		{cache2, api.ErrInvalid, func(c *api.Catalogue) { c.Caches[1].TTL = 0 }},
	})
	checkOrder(t, []change{
		{release2, api.ErrDuplicate, func(c *api.Catalogue) { c.Releases[1].Name = "release1" }},
		{release2, api.ErrReference, func(c *api.Catalogue) { c.Releases[1].Source = "shop" }},
		{release2, api.ErrInvalid, func(c *api.Catalogue) { c.Releases[1].Threshold = 0 }},
	})
	checkOrder(t, []change{
		{stream2, api.ErrDuplicate, func(c *api.Catalogue) { c.Streams[1].Name = "stream1" }},
		{stream2, api.ErrReference, func(c *api.Catalogue) { c.Streams[1].Table = "every" }},
	})
	checkOrder(t, []change{
		{backup1, api.ErrDuplicate, func(c *api.Catalogue) { c.Backups[0].Name = "orders" }},
		{backup1, api.ErrInvalid, func(c *api.Catalogue) { c.Backups[0].Keep = 0 }},
		{backup1, api.ErrReference, func(c *api.Catalogue) { c.Backups[0].Tables[0] = "!" }},
		{backup1, api.ErrDuplicate, func(c *api.Catalogue) { c.Backups[0].Tables = []string{"shop", "shop", "!"} }},
	})
}
