package table

import (
	"slices"

	"erasure/api"
	"erasure/value"
)

// Check returns ErrInvalid if t are not valid tables of c, and otherwise the first error of x, or OK.
func Check(c api.Catalogue, t [][]api.Record, x api.Change) api.Errno {
	if !Valid(c, t) {
		return api.ErrInvalid
	}
	s, _ := schemaOf(c)
	if errno := s.formError(x); errno != api.OK {
		return errno
	}
	if x.Seq <= lastPosition(t) {
		return api.ErrOrder
	}
	return s.effectError(t, x)
}

// lastPosition returns the greatest position at which a cell of valid tables was written; 0 if there are no records.
func lastPosition(t [][]api.Record) int {
	last := 0
	for _, records := range t {
		for _, r := range records {
			last = max(last, slices.Max(r.Seq))
		}
	}
	return last
}

// Apply returns the tables after x, or the error of Check.
func Apply(c api.Catalogue, t [][]api.Record, x api.Change) ([][]api.Record, api.Errno) {
	if errno := Check(c, t, x); errno != api.OK {
		return nil, errno
	}
	next := copyOf(t)
	perform(next, x)
	return next, api.OK
}

// copyOf returns a copy of t that shares no memory with it.
func copyOf(t [][]api.Record) [][]api.Record {
	next := make([][]api.Record, len(t))
	for i, records := range t {
		for _, r := range records {
			next[i] = append(next[i], api.Record{Row: slices.Clone(r.Row), Seq: slices.Clone(r.Seq), Day: r.Day})
		}
	}
	return next
}

// perform changes t by a well-formed change, where an insertion replaces a record with its key. All memory of t has to be the caller's own.
func perform(t [][]api.Record, x api.Change) {
	records := t[x.Table]
	at, found := slices.BinarySearchFunc(records, keyOf(x), func(r api.Record, key api.Value) int {
		return value.Compare(r.Row[0], key)
	})
	switch {
	case x.Kind == api.ChangeInsert && found:
		records[at] = recordOf(x)
	case x.Kind == api.ChangeInsert && len(records) < api.MaxRecords:
		t[x.Table] = slices.Insert(records, at, recordOf(x))
	case x.Kind == api.ChangeUpdate && found:
		records[at].Row[x.Column], records[at].Seq[x.Column] = x.Value, x.Seq
	case x.Kind == api.ChangeDelete && found:
		t[x.Table] = slices.Delete(records, at, at+1)
	}
}

// recordOf returns the record that an insertion adds.
func recordOf(x api.Change) api.Record {
	return api.Record{Row: slices.Clone(x.Row), Seq: slices.Repeat([]int{x.Seq}, len(x.Row)), Day: x.Day}
}
