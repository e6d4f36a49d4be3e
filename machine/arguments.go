package machine

import (
	"slices"

	"fathom/api"
	"fathom/argument"
)

func fits(params []api.Type, args []api.Arg) bool {
	if len(args) != len(params) {
		return false
	}
	for i := range args {
		if !argument.Fits(params[i], args[i]) {
			return false
		}
	}
	return true
}

// argument is the cell of an argument that fits.
func (m *machine) argument(a *api.Arg) api.Cell {
	if a.Kind == api.ArgPoison {
		return m.poison()
	}
	if a.Value.Type != api.TypeL {
		return literal(a.Value)
	}
	list := api.Cell{Kind: api.CellNil}
	if a.Kind == api.ArgTorn {
		list = m.poison()
	}
	for i, z := range slices.Backward(a.Value.List) {
		head := api.Cell{Kind: api.CellNum, Num: z}
		if a.Kind == api.ArgHole && i == a.Hole {
			head = m.poison()
		}
		list = m.pair(head, list)
	}
	return list
}
