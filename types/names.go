package types

import (
	"slices"

	"fathom/api"
)

// names is the types of the names that are bound around the place that a walk has come to, each its nearest binding's.
// A name that isn't bound has the type 0, which is wanted nowhere.
type names map[string]api.Type

// bind binds more names, the last one of a name counting, and answers the types that they had before.
func (n names) bind(bound []api.Param) []api.Type {
	before := make([]api.Type, len(bound))
	for i, b := range bound {
		before[i] = n[b.Name]
		n[b.Name] = b.Type
	}
	return before
}

// unbind goes from the last to the first, so that of a name that was bound twice the oldest type comes back.
func (n names) unbind(bound []api.Param, before []api.Type) {
	for i, b := range slices.Backward(bound) {
		n[b.Name] = before[i]
	}
}

// boundIn is the names that an expression binds in its part i; of a head and a tail of one name the tail counts.
func boundIn(e api.Expr, i int) []api.Param {
	switch {
	case e.Op == api.OpLet, e.Op == api.OpStrict && i == 1:
		return []api.Param{{Name: e.Name, Type: e.Type}}
	case e.Op == api.OpCase && i == 2:
		return []api.Param{{Name: e.Name, Type: api.TypeN}, {Name: e.Tail, Type: api.TypeL}}
	}
	return nil
}
