package heap

import (
	"math"
	"math/rand"

	"fathom/api"
)

type method int

const (
	callDelay method = iota
	callPoison
	callPair
	callLook
	callParts
	callEnter
	callUpdate
	callCounts
	methods
)

// call is one call of a heap: a tag or a number, and cells where it takes them.
type call struct {
	method method
	number int
	a, b   api.Cell
}

// answer has room for all that a call may answer.
type answer struct {
	number, more int
	node         api.Node
	a, b         api.Cell
	why          api.Errno
}

func sameAnswer(x, y answer) bool {
	return x.number == y.number && x.more == y.more && sameNode(x.node, y.node) && sameCell(x.a, y.a) && sameCell(x.b, y.b) && x.why == y.why
}

func ask(h *Heap, c call) answer {
	var r answer
	switch c.method {
	case callDelay:
		r.number, r.why = h.Delay(c.number)
	case callPoison:
		r.number, r.why = h.Poison()
	case callPair:
		r.number, r.why = h.Pair(c.a, c.b)
	case callLook:
		r.node, r.why = h.Look(c.number)
	case callParts:
		r.a, r.b, r.why = h.Parts(c.number)
	case callEnter:
		r.node, r.why = h.Enter(c.number)
	case callUpdate:
		r.why = h.Update(c.number, c.a)
	case callCounts:
		r.number, r.more = h.Counts()
	}
	return r
}

// history is the calls that weren't refused, and nothing else: what a heap is can be read out of them.
type history []call

func (all history) count(which ...method) int {
	n := 0
	for _, c := range all {
		for _, m := range which {
			if c.method == m {
				n++
			}
		}
	}
	return n
}

func (all history) node(at int) (api.Node, bool) {
	var n api.Node
	made := 0
	for _, c := range all {
		switch {
		case c.method == callDelay && made == at:
			n = delayed(c.number)
		case c.method == callPoison && made == at:
			n = poison()
		case c.method == callEnter && c.number == at && n.State == api.Delayed:
			n = black()
		case c.method == callUpdate && c.number == at:
			n = done(c.a)
		}
		if c.method == callDelay || c.method == callPoison {
			made++
		}
	}
	return n, n.State != 0
}

func (all history) pair(at int) (call, bool) {
	for _, c := range all {
		if c.method != callPair {
			continue
		}
		if at == 0 {
			return c, true
		}
		at--
	}
	return call{}, false
}

func wholePart(x float64) bool {
	for _, same := range []float64{math.Floor(x), math.Ceil(x)} {
		if same != x {
			return false
		}
	}
	return math.Abs(x) <= 16777216 && math.Float64bits(x) != 1<<63
}

func (all history) cell(c api.Cell) bool {
	bare := c
	bare.Kind = 0
	is := true
	switch c.Kind {
	case api.CellNum:
		is = wholePart(real(c.Num)) && wholePart(imag(c.Num))
		bare.Num = 0
	case api.CellBool:
		bare.Bool = false
	case api.CellNil:
	case api.CellCons:
		_, is = all.pair(c.At)
		bare.At = 0
	case api.CellNode:
		_, is = all.node(c.At)
		bare.At = 0
	default:
		is = false
	}
	return is && sameCell(bare, api.Cell{})
}

// answer is what the chapter's words say of a call behind this history.
func (all history) answer(c call) answer {
	n, isNode := all.node(c.number)
	switch c.method {
	case callDelay, callPoison:
		return answer{number: all.count(callDelay, callPoison)}
	case callPair:
		if !all.cell(c.a) || !all.cell(c.b) {
			return answer{why: api.ErrShape}
		}
		return answer{number: all.count(callPair)}
	case callParts:
		p, is := all.pair(c.number)
		if !is {
			return answer{why: api.ErrRange}
		}
		return answer{a: p.a, b: p.b}
	case callCounts:
		return answer{number: all.count(callDelay), more: all.count(callUpdate)}
	}
	switch {
	case !isNode:
		return answer{why: api.ErrRange}
	case c.method == callLook:
		return answer{node: n}
	case c.method == callUpdate && (n.State != api.Black || c.a.Kind == api.CellNode || !all.cell(c.a)):
		return answer{why: api.ErrShape}
	case c.method == callUpdate:
		return answer{}
	case n.State == api.Black:
		return answer{why: api.TrapLoop}
	case n.State == api.Poison:
		return answer{why: api.TrapBottom}
	}
	return answer{node: n}
}

// drawer draws calls that often fit what a heap of some nodes and pairs has, and sometimes don't.
type drawer struct{ source *rand.Rand }

func (d drawer) number(count int) int {
	switch d.source.Intn(12) {
	case 0:
		return -1 - d.source.Intn(3)
	case 1:
		return count + d.source.Intn(3)
	}
	return d.source.Intn(count + 1)
}

func (d drawer) cell(nodes, pairs int) api.Cell {
	if d.source.Intn(10) == 0 {
		bad := noCells()
		return bad[d.source.Intn(len(bad))]
	}
	switch d.source.Intn(5) {
	case 0:
		return num(complex(float64(d.source.Intn(9)-4), float64(d.source.Intn(9)-4)))
	case 1:
		return yes(d.source.Intn(2) == 0)
	case 2:
		return none()
	case 3:
		return cons(d.number(pairs))
	}
	return node(d.number(nodes))
}

func (d drawer) call(nodes, pairs int) call {
	c := call{method: method(d.source.Intn(int(methods)))}
	switch c.method {
	case callDelay:
		c.number = d.source.Int() - d.source.Int()
	case callPair:
		c.a, c.b = d.cell(nodes, pairs), d.cell(nodes, pairs)
	case callLook, callEnter:
		c.number = d.number(nodes)
	case callParts:
		c.number = d.number(pairs)
	case callUpdate:
		c.number, c.a = d.number(nodes), d.cell(nodes, pairs)
	}
	return c
}
