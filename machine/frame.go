package machine

import "fathom/api"

// frame is the slots of one call. The first ones stand in a list, the others in a map as they are bound: of many slots most
// may belong to parts that a call never comes to, and a frame lasts as long as a thing that was delayed with it.
type frame struct {
	first []api.Cell
	rest  map[int]api.Cell
}

// ready is how many slots behind the parameters have their room from the beginning.
const ready = 8

func newFrame(s *api.Super) *frame {
	return &frame{first: make([]api.Cell, min(s.Slots, len(s.Params)+ready))}
}

func (f *frame) bind(slot int, c api.Cell) {
	if slot < len(f.first) {
		f.first[slot] = c
		return
	}
	if f.rest == nil {
		f.rest = map[int]api.Cell{}
	}
	f.rest[slot] = c
}

func (f *frame) held(slot int) api.Cell {
	if slot < len(f.first) {
		return f.first[slot]
	}
	return f.rest[slot]
}

func (f *frame) atom(a *api.Atom) api.Cell {
	if a.Slot < 0 {
		return literal(a.Lit)
	}
	return f.held(a.Slot)
}
