package catalogue

import (
	"slices"

	"erasure/api"
	"erasure/lexer"
)

// table checks a table.
func (k *checker) table(t api.Table) api.Errno {
	if errno := k.declare(t.Name); errno != api.OK {
		return errno
	}
	if !isValidTable(t) {
		return api.ErrInvalid
	}
	var result columns
	for i, column := range t.Columns {
		if errno := k.column(t, i, result.names); errno != api.OK {
			return errno
		}
		result.names = append(result.names, column.Name)
		result.types = append(result.types, column.Type)
	}
	k.stores = append(k.stores, result)
	return api.OK
}

// isValidTable reports whether a table is valid apart from its name and its columns.
func isValidTable(t api.Table) bool {
	return isWithin(len(t.Columns), 1, api.MaxColumns) &&
		(t.Erase == api.EraseCells || t.Erase == api.EraseRow) &&
		isWithin(t.Retain, 0, api.MaxDay)
}

// column checks a column of a table behind columns with the earlier names.
func (k *checker) column(t api.Table, number int, earlier []string) api.Errno {
	column := t.Columns[number]
	if column.Namespace != "" && !lexer.IsName(column.Namespace) {
		return api.ErrName
	}
	if errno := checkName(column.Name, earlier); errno != api.OK {
		return errno
	}
	key, found := k.key(column)
	switch {
	case !found:
		return api.ErrReference
	case column.Type != api.KindInt && column.Type != api.KindText, column.Type != key.Type:
		return api.ErrType
	case !isValidColumn(t, number), isPersonal(key) && !slices.Contains(column.Owners, number):
		return api.ErrInvalid
	default:
		return api.OK
	}
}

// key returns the key of the table that a column references, and whether there is one. Without a reference, a key that fits any column stands in: it has the same type, and no owners.
func (k *checker) key(column api.Column) (api.Column, bool) {
	if column.References == "" {
		return api.Column{Type: column.Type}, true
	}
	table := k.findTable(column.References)
	if table < 0 {
		return api.Column{}, false
	}
	return k.catalogue.Tables[table].Columns[0], true
}

// isValidColumn reports whether the parts of a column fit together.
func isValidColumn(t api.Table, number int) bool {
	column := t.Columns[number]
	if column.Namespace != "" && column.References != "" {
		return false
	}
	if !isPersonal(column) {
		return column.Joint == api.JointAny && column.Duty == 0
	}
	return areOwners(t, column.Owners) &&
		(column.Joint == api.JointAny || column.Joint == api.JointAll) &&
		isValidDuty(column.Duty, t.Retain) &&
		(number != 0 || t.Erase == api.EraseRow)
}

// isPersonal reports whether a column has owners.
func isPersonal(column api.Column) bool {
	return len(column.Owners) > 0
}

// areOwners reports whether the numbers are strictly ascending and those of columns of t that name owners.
func areOwners(t api.Table, numbers []int) bool {
	last := -1
	for _, number := range numbers {
		if number <= last || number >= len(t.Columns) {
			return false
		}
		if owner := t.Columns[number]; owner.Namespace == "" && owner.References == "" {
			return false
		}
		last = number
	}
	return true
}

// isValidDuty reports whether a duty is in its range and ends before the records of the table are removed.
func isValidDuty(duty, retain int) bool {
	return isWithin(duty, 0, api.MaxDay) && (retain == 0 || duty <= retain)
}
