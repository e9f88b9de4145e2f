package catalogue

import (
	"slices"

	"erasure/api"
)

const (
	maxDepth     = 8    // of a sketch
	maxThreshold = 1024 // of a release
)

// index checks an index.
func (k *checker) index(x api.Index) api.Errno {
	kind, errno := k.place(x.Name, x.Source, x.Column)
	if errno == api.OK && kind != api.KindText {
		return api.ErrType
	}
	return errno
}

// sketch checks a sketch.
func (k *checker) sketch(s api.Sketch) api.Errno {
	_, errno := k.place(s.Name, s.Source, s.Column)
	if errno == api.OK && !isValidSketch(s) {
		return api.ErrInvalid
	}
	return errno
}

// isValidSketch reports whether the kind and the size of a sketch are in their ranges.
func isValidSketch(s api.Sketch) bool {
	depth := maxDepth
	switch s.Kind {
	case api.SketchCount, api.SketchBloom:
	case api.SketchBottom:
		depth = 1
	default:
		return false
	}
	return isWithin(s.Width, 1, api.MaxCells) && isWithin(s.Depth, 1, depth) && s.Width*s.Depth <= api.MaxCells
}

// cache checks a cache.
func (k *checker) cache(x api.Cache) api.Errno {
	_, errno := k.place(x.Name, x.Source, x.Column)
	if errno == api.OK && !isWithin(x.TTL, 1, api.MaxDay) {
		return api.ErrInvalid
	}
	return errno
}

// place checks what a declaration of something that is derived from one column says of it, and returns the type of the column.
func (k *checker) place(name, source string, column int) (int, api.Errno) {
	if errno := k.declare(name); errno != api.OK {
		return 0, errno
	}
	store, found := k.source(source)
	switch {
	case !found:
		return 0, api.ErrReference
	case !isWithin(column, 0, len(store.types)-1):
		return 0, api.ErrName
	default:
		return store.types[column], api.OK
	}
}

// release checks a release.
func (k *checker) release(r api.Release) api.Errno {
	if errno := k.declare(r.Name); errno != api.OK {
		return errno
	}
	view := k.find(r.Source) - len(k.catalogue.Tables)
	if view < 0 {
		return api.ErrReference
	}
	if !isCounting(k.catalogue.Views[view]) || !isWithin(r.Threshold, 1, maxThreshold) {
		return api.ErrInvalid
	}
	return api.OK
}

// isCounting reports whether a valid view has groups and begins with the numbers of their rows.
func isCounting(v api.View) bool {
	return v.Kind == api.ViewGroup && v.Aggregates[0].Func == api.AggCount
}

// stream checks a stream.
func (k *checker) stream(s api.Stream) api.Errno {
	if errno := k.declare(s.Name); errno != api.OK {
		return errno
	}
	if k.findTable(s.Table) < 0 {
		return api.ErrReference
	}
	return api.OK
}

// backup checks a backup.
func (k *checker) backup(b api.Backup) api.Errno {
	if errno := k.declare(b.Name); errno != api.OK {
		return errno
	}
	if len(b.Tables) == 0 || !isWithin(b.Keep, 1, api.MaxDay) {
		return api.ErrInvalid
	}
	for i, table := range b.Tables {
		if k.findTable(table) < 0 {
			return api.ErrReference
		}
		if slices.Contains(b.Tables[:i], table) {
			return api.ErrDuplicate
		}
	}
	return api.OK
}
