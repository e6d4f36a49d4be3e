package machine

import "fathom/api"

// literal is a number, a bool or the empty list as a cell.
func literal(v api.Value) api.Cell {
	switch v.Type {
	case api.TypeN:
		return api.Cell{Kind: api.CellNum, Num: v.Num}
	case api.TypeB:
		return api.Cell{Kind: api.CellBool, Bool: v.Bool}
	}
	return api.Cell{Kind: api.CellNil}
}

// plain is an end as a value; of a pair, which isn't one yet, the zero Value, which fits no operation.
func plain(end api.Cell) api.Value {
	switch end.Kind {
	case api.CellNum:
		return api.Value{Type: api.TypeN, Num: end.Num}
	case api.CellBool:
		return api.Value{Type: api.TypeB, Bool: end.Bool}
	case api.CellNil:
		return api.Value{Type: api.TypeL}
	}
	return api.Value{}
}

// pair is a new pair. The heap refuses none: slots hold nothing but cells of it.
func (m *machine) pair(head, tail api.Cell) api.Cell {
	at, _ := m.heap.Pair(head, tail)
	return api.Cell{Kind: api.CellCons, At: at}
}

func (m *machine) poison() api.Cell {
	at, _ := m.heap.Poison()
	return api.Cell{Kind: api.CellNode, At: at}
}
