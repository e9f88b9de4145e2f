package table

import (
	"erasure/api"
)

// History returns 0 and OK if l is a history, and otherwise the index of the first change with an error (0 if c is not valid or l is too long) and its first error.
func History(c api.Catalogue, l []api.Change) (int, api.Errno) {
	s, ok := schemaOf(c)
	if !ok {
		return 0, api.ErrInvalid
	}
	if len(l) > api.MaxChanges {
		return 0, api.ErrFull
	}
	t := make([][]api.Record, len(s))
	for i, x := range l {
		errno := s.orderedError(l[:i], x)
		if errno == api.OK {
			errno = s.effectError(t, x)
		}
		if errno != api.OK {
			return i, errno
		}
		perform(t, x)
	}
	return 0, api.OK
}

// orderedError returns the first error of x behind the changes of an ordered list.
func (s schema) orderedError(before []api.Change, x api.Change) api.Errno {
	if errno := s.formError(x); errno != api.OK {
		return errno
	}
	if len(before) == 0 {
		return api.OK
	}
	if last := before[len(before)-1]; x.Seq <= last.Seq || x.Day < last.Day {
		return api.ErrOrder
	}
	return api.OK
}

// Ordered reports whether l is ordered; false if c is not valid.
func Ordered(c api.Catalogue, l []api.Change) bool {
	s, ok := schemaOf(c)
	if !ok || len(l) > api.MaxChanges {
		return false
	}
	for i, x := range l {
		if s.orderedError(l[:i], x) != api.OK {
			return false
		}
	}
	return true
}

// Replay returns the tables after the changes of l, without checks of the tables; nothing if c is not valid.
func Replay(c api.Catalogue, l []api.Change) [][]api.Record {
	s, ok := schemaOf(c)
	if !ok {
		return nil
	}
	t := make([][]api.Record, len(s))
	for _, x := range l {
		if s.formError(x) == api.OK {
			perform(t, x)
		}
	}
	return t
}
