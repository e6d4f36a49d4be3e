package heap

import (
	"fathom/api"
	"fathom/gauss"
)

func (h *Heap) hasNode(at int) bool { return at >= 0 && at < len(h.nodes) }

func (h *Heap) hasPair(at int) bool { return at >= 0 && at < len(h.pairs) }

func (h *Heap) isCell(c api.Cell) bool {
	switch c.Kind {
	case api.CellNum:
		return gauss.Valid(c.Num) && !c.Bool && c.At == 0
	case api.CellBool:
		return zero(c.Num) && c.At == 0
	case api.CellNil:
		return zero(c.Num) && !c.Bool && c.At == 0
	case api.CellCons:
		return zero(c.Num) && !c.Bool && h.hasPair(c.At)
	case api.CellNode:
		return zero(c.Num) && !c.Bool && h.hasNode(c.At)
	}
	return false
}

func (h *Heap) isEnd(c api.Cell) bool { return c.Kind != api.CellNode && h.isCell(c) }

// A -0 equals 0, but the fields that a cell's kind doesn't name are +0 in both parts.
func zero(z complex128) bool { return z == 0 && gauss.Valid(z) }
