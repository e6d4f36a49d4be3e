package scope

import (
	"maps"
	"slices"

	"fathom/api"
)

// names is a set of them.
type names map[string]struct{}

func (n names) add(more ...string) {
	for _, name := range more {
		n[name] = struct{}{}
	}
}

func (n names) has(name string) bool {
	_, found := n[name]
	return found
}

// addOf adds all names that stand in an expression.
func (n names) addOf(e api.Expr) {
	switch e.Op {
	case api.OpVar, api.OpCall, api.OpLet, api.OpStrict:
		n.add(e.Name)
	case api.OpCase:
		n.add(e.Name, e.Tail)
	}
	for _, part := range e.Args {
		n.addOf(part)
	}
}

func (n names) sorted() []string { return slices.Sorted(maps.Keys(n)) }
