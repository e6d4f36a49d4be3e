package machine

import (
	"slices"

	"fathom/api"
	"fathom/value"
)

func fits(params []api.Type, args []api.Arg) bool {
	if len(args) != len(params) {
		return false
	}
	for i := range args {
		if !fitsOne(params[i], &args[i]) {
			return false
		}
	}
	return true
}

func fitsOne(t api.Type, a *api.Arg) bool {
	if a.Kind == api.ArgPoison {
		return isZero(a.Value)
	}
	if a.Value.Type != t || value.Check(a.Value) != api.OK {
		return false
	}
	switch a.Kind {
	case api.ArgValue:
		return true
	case api.ArgTorn:
		return t == api.TypeL
	case api.ArgHole:
		return t == api.TypeL && a.Hole >= 0 && a.Hole < len(a.Value.List)
	}
	return false
}

// isZero asks by way of a number, as all fields but Type of the number 0 are zero: a -0 is none.
func isZero(v api.Value) bool {
	if v.Type != 0 {
		return false
	}
	v.Type = api.TypeN
	return value.Same(v, api.Value{Type: api.TypeN})
}

// argument is the cell of an argument that fits.
func (m *machine) argument(a *api.Arg) api.Cell {
	if a.Kind == api.ArgPoison {
		return m.poison()
	}
	if a.Value.Type != api.TypeL {
		return literal(a.Value)
	}
	list := api.Cell{Kind: api.CellNil}
	if a.Kind == api.ArgTorn {
		list = m.poison()
	}
	for i, z := range slices.Backward(a.Value.List) {
		head := api.Cell{Kind: api.CellNum, Num: z}
		if a.Kind == api.ArgHole && i == a.Hole {
			head = m.poison()
		}
		list = m.pair(head, list)
	}
	return list
}
