package scope

import "fathom/api"

// checker keeps the least of the faults that it is told: they aren't met in the order of their places, as an operation
// stands at its sign.
type checker struct {
	params map[string]int // of each function's name, how many its first definition has
	least  api.Fault
}

// tell takes a fault. Places of what layers above have made may be one: then the error that the document names first
// counts, which has the least number.
func (c *checker) tell(why api.Errno, at int) {
	first := c.least.Why == api.OK
	if first || at < c.least.At || at == c.least.At && why < c.least.Why {
		c.least = api.Fault{Why: why, At: at}
	}
}

func (c *checker) define(f api.Func) {
	if _, twice := c.params[f.Name]; twice {
		c.tell(api.ErrTwice, f.At)
		return
	}
	c.params[f.Name] = len(f.Params)
}

// within looks at a definition's parameters and body, once all functions are known.
func (c *checker) within(f api.Func) {
	around := bindings{}
	for _, param := range f.Params {
		if around.has(param.Name) {
			c.tell(api.ErrTwice, param.At)
		}
		around.add(1, param.Name)
	}
	around.walk(f.Body, func(e api.Expr) {
		if around.leavesFree(e) {
			c.tell(api.ErrName, e.At)
		}
		if e.Op == api.OpCall {
			c.call(e)
		}
	})
}

func (c *checker) call(e api.Expr) {
	count, known := c.params[e.Name]
	switch {
	case !known:
		c.tell(api.ErrFunc, e.At)
	case count != len(e.Args):
		c.tell(api.ErrCount, e.At)
	}
}
