// Package argument says which arguments of a run may stand at a parameter: layers 14 and 15 ask it.
package argument

import (
	"fathom/api"
	"fathom/value"
)

// Fits: may the argument stand at a parameter of that type?
func Fits(t api.Type, a api.Arg) bool {
	if a.Kind == api.ArgPoison {
		return isType(t) && isZero(a.Value)
	}
	if a.Value.Type != t || value.Check(a.Value) != api.OK {
		return false
	}
	switch a.Kind {
	case api.ArgValue:
		return true
	case api.ArgTorn:
		return t == api.TypeL
	case api.ArgHole:
		return t == api.TypeL && a.Hole >= 0 && a.Hole < len(a.Value.List)
	}
	return false
}

func isType(t api.Type) bool { return t == api.TypeN || t == api.TypeB || t == api.TypeL }

// isZero asks by way of a number, as all fields but Type of the number 0 are zero: a -0 is none.
func isZero(v api.Value) bool {
	if v.Type != 0 {
		return false
	}
	v.Type = api.TypeN
	return value.Same(v, api.Value{Type: api.TypeN})
}
