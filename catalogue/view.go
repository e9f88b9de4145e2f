package catalogue

import (
	"slices"

	"erasure/api"
	"erasure/expr"
)

// view checks a view.
func (k *checker) view(v api.View) api.Errno {
	if errno := k.declare(v.Name); errno != api.OK {
		return errno
	}
	left, hasLeft := k.source(v.Left)
	right, hasRight := k.source(v.Right)
	switch {
	case v.Kind != api.ViewSelect && v.Kind != api.ViewGroup && v.Kind != api.ViewUnion:
		return api.ErrInvalid
	case !hasLeft || !hasRight && v.Right != "":
		return api.ErrReference
	case !isValidView(v):
		return api.ErrInvalid
	}
	result, errno := derive(v, left, right)
	if errno != api.OK {
		return errno
	}
	k.stores = append(k.stores, result)
	return api.OK
}

// isValidView reports whether a view has the parts that its kind requires, and not too many of them.
func isValidView(v api.View) bool {
	if v.Kind == api.ViewUnion {
		return v.Right != "" && len(v.On)+len(v.Where)+len(v.Items)+len(v.Aggregates) == 0 && !v.Distinct
	}
	if v.Right == "" && len(v.On) > 0 || len(v.On) > api.MaxColumns || len(v.Items)+len(v.Aggregates) > api.MaxColumns {
		return false
	}
	if v.Kind == api.ViewSelect {
		return len(v.Items) > 0 && len(v.Aggregates) == 0
	}
	return len(v.Aggregates) > 0 && !v.Distinct
}

// derive returns the columns of a view of sources with the given columns, or the first error of its parts.
func derive(v api.View, left, right columns) (columns, api.Errno) {
	if v.Kind == api.ViewUnion {
		if !slices.Equal(left.types, right.types) {
			return columns{}, api.ErrType
		}
		return left, api.OK
	}
	if errno := checkPairs(v.On, left.types, right.types); errno != api.OK {
		return columns{}, errno
	}
	types := slices.Concat(left.types, right.types)
	if errno := checkWhere(v.Where, types); errno != api.OK {
		return columns{}, errno
	}
	return listed(v, types)
}

// checkPairs returns the first error of pairs of columns with the given types.
func checkPairs(pairs [][2]int, left, right []int) api.Errno {
	for _, pair := range pairs {
		if !isWithin(pair[0], 0, len(left)-1) || !isWithin(pair[1], 0, len(right)-1) {
			return api.ErrName
		}
		if left[pair[0]] != right[pair[1]] {
			return api.ErrType
		}
	}
	return api.OK
}

// checkWhere returns the error of a condition, which may be empty, on columns of the given types.
func checkWhere(where []api.Term, types []int) api.Errno {
	if len(where) == 0 {
		return api.OK
	}
	return typeOf(where, types).requireInt().errno
}

// listed returns the columns that are the items and then the aggregates of a view, or their first error.
func listed(v api.View, types []int) (columns, api.Errno) {
	var result columns
	for _, item := range v.Items {
		if errno := result.add(item.Name, typeOf(item.Expr, types)); errno != api.OK {
			return columns{}, errno
		}
	}
	for _, aggregate := range v.Aggregates {
		if errno := result.add(aggregate.Name, aggregateType(aggregate, types)); errno != api.OK {
			return columns{}, errno
		}
	}
	return result, api.OK
}

// add adds a column, or returns the error of its name or else that of its type.
func (s *columns) add(name string, t typing) api.Errno {
	if errno := checkName(name, s.names); errno != api.OK {
		return errno
	}
	if t.errno != api.OK {
		return t.errno
	}
	s.names = append(s.names, name)
	s.types = append(s.types, t.kind)
	return api.OK
}

// typing is a type, or the error that stands in its place.
type typing struct {
	kind  int
	errno api.Errno
}

// typeOf returns the type of an expression.
func typeOf(e []api.Term, types []int) typing {
	kind, errno := expr.Type(e, types)
	return typing{kind, errno}
}

// requireInt turns the type of texts into an error.
func (t typing) requireInt() typing {
	if t.errno == api.OK && t.kind != api.KindInt {
		return typing{errno: api.ErrType}
	}
	return t
}

// aggregateType returns the type of an aggregate.
func aggregateType(a api.Aggregate, types []int) typing {
	switch a.Func {
	case api.AggCount:
		if len(a.Expr) > 0 {
			return typing{errno: api.ErrInvalid}
		}
		return typing{kind: api.KindInt}
	case api.AggSum:
		return typeOf(a.Expr, types).requireInt()
	case api.AggMin, api.AggMax, api.AggMedian:
		return typeOf(a.Expr, types)
	default:
		return typing{errno: api.ErrInvalid}
	}
}
