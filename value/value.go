// Package value is layer 1: values, rows, their order, text and byte encoding (shared/doc/01-value.md).
package value

import (
	"cmp"
	"slices"
	"strings"

	"erasure/api"
)

const maxRow = 2 * api.MaxColumns // the row of a join has the columns of both sides

// Valid reports whether v is one of the values that the chapter defines.
func Valid(v api.Value) bool {
	switch v.Kind {
	case api.KindNull:
		return v.Int == 0 && v.Text == ""
	case api.KindInt:
		return v.Text == "" && -api.MaxNumber <= v.Int && v.Int <= api.MaxNumber
	case api.KindText:
		return v.Int == 0 && len(v.Text) <= api.MaxText
	default:
		return false
	}
}

// Clean returns v if it is valid, and null otherwise.
func Clean(v api.Value) api.Value {
	if Valid(v) {
		return v
	}
	return api.Value{}
}

// ValidRow reports whether r is short enough and has only valid values.
func ValidRow(r []api.Value) bool {
	if len(r) > maxRow {
		return false
	}
	for _, v := range r {
		if !Valid(v) {
			return false
		}
	}
	return true
}

// Compare returns -1, 0 or 1, as Clean(a) comes before Clean(b), is equal to it, or comes after it.
func Compare(a, b api.Value) int {
	a, b = Clean(a), Clean(b)
	if a.Kind != b.Kind {
		// The kinds are numbered in the order of their values.
		return cmp.Compare(a.Kind, b.Kind)
	}
	switch a.Kind {
	case api.KindInt:
		return cmp.Compare(a.Int, b.Int)
	case api.KindText:
		return strings.Compare(a.Text, b.Text)
	default:
		return 0
	}
}

// CompareRows compares rows of any length lexicographically by their cleaned values.
func CompareRows(a, b []api.Value) int {
	return slices.CompareFunc(a, b, Compare)
}
