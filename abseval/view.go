package abseval

import (
	"fathom/api"
	"fathom/points"
	"fathom/rows"
	"fathom/tuples"
)

// view is what expressions are looked at with: tables that fit their program, and the points of the names that are bound
// around the place that a walk has come to.
type view struct {
	tables map[string]api.Table
	names  map[string]api.Point
}

func newView(p api.Program, tables []api.Table) *view {
	v := view{tables: make(map[string]api.Table, len(tables)), names: map[string]api.Point{}}
	for i, t := range tables {
		v.tables[p.Funcs[i].Name] = t
	}
	return &v
}

// body is the point of a function's body, the parameters having the tuple's points.
func (v *view) body(f *api.Func, tuple []api.Point) api.Point {
	for i, param := range f.Params {
		v.names[param.Name] = tuple[i]
	}
	return v.point(&f.Body)
}

func (v *view) point(e *api.Expr) api.Point {
	switch e.Op {
	case api.OpNum, api.OpTrue, api.OpFalse:
		return 1
	case api.OpNil:
		return 3
	case api.OpFail:
		return 0
	case api.OpVar:
		return v.names[e.Name]
	case api.OpCall:
		return v.call(e)
	case api.OpCons:
		p, _ := points.Cons(v.point(&e.Args[0]), v.point(&e.Args[1]))
		return p
	case api.OpIf:
		return v.choose(e)
	case api.OpCase:
		return v.open(e)
	case api.OpLet:
		return v.within(e.Name, v.settle(e), &e.Args[1])
	case api.OpStrict:
		return v.force(e)
	}
	return v.least(e.Args)
}

// within is an expression's point, one name more having a point.
func (v *view) within(name string, p api.Point, e *api.Expr) api.Point {
	before := v.names[name]
	v.names[name] = p
	found := v.point(e)
	v.names[name] = before
	return found
}

// least is the point of an operation of these operands.
func (v *view) least(operands []api.Expr) api.Point {
	p := api.Point(1)
	for i := range operands {
		p = min(p, v.point(&operands[i]))
	}
	return p
}

// call reads the row itself: that the table is one is known, and needn't be asked again of each call.
func (v *view) call(e *api.Expr) api.Point {
	t := v.tables[e.Name]
	tuple := make([]api.Point, len(e.Args))
	for i := range e.Args {
		tuple[i] = v.point(&e.Args[i])
	}
	n, _ := tuples.Number(t.Params, tuple)
	cell, _ := rows.Get(t.Row, n)
	return api.Point(cell)
}

func (v *view) choose(e *api.Expr) api.Point {
	if v.point(&e.Args[0]) == 0 {
		return 0
	}
	return max(v.point(&e.Args[1]), v.point(&e.Args[2]))
}

func (v *view) open(e *api.Expr) api.Point {
	ways, _ := points.Cases(v.point(&e.Args[0]))
	greatest := api.Point(0)
	for _, way := range ways {
		greatest = max(greatest, v.along(way, e))
	}
	return greatest
}

// along binds the head's name around the tail's: of one name for both the tail counts.
func (v *view) along(way api.Branch, e *api.Expr) api.Point {
	if way.Nil {
		return v.point(&e.Args[1])
	}
	before := v.names[e.Name]
	v.names[e.Name] = way.Head
	found := v.within(e.Tail, way.Tail, &e.Args[2])
	v.names[e.Name] = before
	return found
}

// settle is the least point that holds of a let's name. Behind the type's top there is no greater one to be looked for.
func (v *view) settle(e *api.Expr) api.Point {
	top, _ := points.Top(e.Type)
	p := api.Point(0)
	for p < top {
		next := v.within(e.Name, p, &e.Args[0])
		if next <= p {
			break
		}
		p = next
	}
	return p
}

func (v *view) force(e *api.Expr) api.Point {
	first := v.point(&e.Args[0])
	if first == 0 {
		return 0
	}
	return v.within(e.Name, first, &e.Args[1])
}
