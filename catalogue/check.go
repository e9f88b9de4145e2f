package catalogue

import (
	"slices"

	"erasure/api"
	"erasure/lexer"
)

// columns are the columns of a store.
type columns struct {
	names []string
	types []int
}

// checker checks the declarations of a catalogue in their order.
type checker struct {
	catalogue api.Catalogue
	names     []string  // of the declarations up to the one that is checked
	stores    []columns // of the tables and views that have been checked
	number    int       // of the declaration that is checked
	errno     api.Errno // the first error
}

// check checks c up to the first error.
func check(c api.Catalogue) *checker {
	k := &checker{catalogue: c}
	if isFull(c) {
		k.errno = api.ErrFull
	}
	each(k, c.Tables, k.table)
	each(k, c.Views, k.view)
	each(k, c.Indexes, k.index)
	each(k, c.Sketches, k.sketch)
	each(k, c.Caches, k.cache)
	each(k, c.Releases, k.release)
	each(k, c.Streams, k.stream)
	each(k, c.Backups, k.backup)
	return k
}

// isFull reports whether there are too many declarations of a kind.
func isFull(c api.Catalogue) bool {
	others := max(len(c.Indexes), len(c.Sketches), len(c.Caches), len(c.Releases), len(c.Streams), len(c.Backups))
	return len(c.Tables) > api.MaxTables || len(c.Views) > api.MaxViews || others > api.MaxStores
}

// each checks the declarations of one kind, unless there is an error already.
func each[T any](k *checker, declarations []T, checkOne func(T) api.Errno) {
	for _, declaration := range declarations {
		if k.errno == api.OK {
			k.errno = checkOne(declaration)
		}
		if k.errno != api.OK {
			return
		}
		k.number++
	}
}

// declare adds the name of the declaration that is checked, or returns its error.
func (k *checker) declare(name string) api.Errno {
	errno := checkName(name, k.names)
	k.names = append(k.names, name)
	return errno
}

// checkName returns the error of a name behind the earlier ones.
func checkName(name string, earlier []string) api.Errno {
	switch {
	case !lexer.IsName(name):
		return api.ErrName
	case slices.Contains(earlier, name):
		return api.ErrDuplicate
	default:
		return api.OK
	}
}

// find returns the number of the store with this name among those that have been checked, or -1.
func (k *checker) find(name string) int {
	// Tables and views are the first declarations, so that their numbers as stores are those as declarations.
	return slices.Index(k.names[:len(k.stores)], name)
}

// source returns the columns of the store with this name among those that have been checked, and whether there is one.
func (k *checker) source(name string) (columns, bool) {
	number := k.find(name)
	if number < 0 {
		return columns{}, false
	}
	return k.stores[number], true
}

// findTable returns the number of the table with this name among those that have been checked, or -1.
func (k *checker) findTable(name string) int {
	if number := k.find(name); number < len(k.catalogue.Tables) {
		return number
	}
	return -1
}

// hasStore reports whether the catalogue is valid and has a store with this number.
func (k *checker) hasStore(number int) bool {
	return k.errno == api.OK && number >= 0 && number < len(k.stores)
}

// sources returns the numbers of the sources of a store, ascending.
func (k *checker) sources(store int) []int {
	if store < len(k.catalogue.Tables) {
		return nil
	}
	view := k.catalogue.Views[store-len(k.catalogue.Tables)]
	sources := []int{k.find(view.Left)}
	if view.Right != "" {
		sources = append(sources, k.find(view.Right))
	}
	slices.Sort(sources)
	return slices.Compact(sources)
}

func isWithin(n, low, high int) bool {
	return low <= n && n <= high
}
