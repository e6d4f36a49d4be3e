package tuples

import (
	"fathom/api"
	"fathom/points"
	"fathom/rows"
)

// New: a table of noughts. ErrShape, ErrTooBig.
func New(params []api.Type, t api.Type) (api.Table, api.Errno) {
	n, e := Count(params)
	if e != api.OK {
		return api.Table{}, e
	}
	if !isType(t) {
		return api.Table{}, api.ErrShape
	}
	row, e := rows.New(n)
	if e != api.OK {
		return api.Table{}, e
	}
	return api.Table{Params: copied(params), Type: t, Row: row}, api.OK
}

// Check: is it a table? ErrShape.
func Check(t api.Table) api.Errno {
	n, e := Count(t.Params)
	if e != api.OK || !isType(t.Type) || t.Row.N != n || rows.Check(t.Row) != api.OK {
		return api.ErrShape
	}
	// No point of the type is what a cell holds from here on.
	for v := size(t.Type); v <= 3; v++ {
		if many, e := rows.Count(t.Row, v); e != api.OK || many != 0 {
			return api.ErrShape
		}
	}
	return api.OK
}

// At: the point at a tuple. ErrShape, ErrRange.
func At(t api.Table, tuple []api.Point) (api.Point, api.Errno) {
	n, e := find(t, tuple)
	if e != api.OK {
		return 0, e
	}
	v, e := rows.Get(t.Row, n)
	return api.Point(v), e
}

// Set: a table like t but there. ErrShape, ErrRange.
func Set(t api.Table, tuple []api.Point, p api.Point) (api.Table, api.Errno) {
	n, e := find(t, tuple)
	if e != api.OK {
		return api.Table{}, e
	}
	if e := points.Check(t.Type, p); e != api.OK {
		return api.Table{}, e
	}
	row, e := rows.Put(t.Row, n, int(p))
	if e != api.OK {
		return api.Table{}, e
	}
	return api.Table{Params: copied(t.Params), Type: t.Type, Row: row}, api.OK
}

// Rises: do greater tuples have no lesser points? ErrShape.
func Rises(t api.Table) (bool, api.Errno) {
	if e := Check(t); e != api.OK {
		return false, e
	}
	// From a tuple to every one that is nowhere lesser a way leads on which one point is made greater by one at a time.
	// So it is enough to look at tuples that are such a step apart.
	step := t.Row.N
	for _, kind := range t.Params {
		span := step
		step /= size(kind)
		for n := range t.Row.N {
			if n%span+step < span && falls(t.Row, n, n+step) {
				return false, api.OK
			}
		}
	}
	return true, api.OK
}

// find is the number of a tuple of the table t. ErrShape, if t is none, and the errors of Number.
func find(t api.Table, tuple []api.Point) (int, api.Errno) {
	if e := Check(t); e != api.OK {
		return 0, e
	}
	return Number(t.Params, tuple)
}

// falls tells whether cell n of a row holds more than cell m.
func falls(r api.Row, n, m int) bool {
	less, _ := rows.Get(r, m)
	more, _ := rows.Get(r, n)
	return more > less
}

// copied is the same types in new memory.
func copied(params []api.Type) []api.Type { return append([]api.Type(nil), params...) }
