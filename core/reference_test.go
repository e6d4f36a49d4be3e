package core

import (
	"maps"
	"math/rand"
	"slices"
	"strconv"
	"strings"
	"testing"

	"fathom/api"
	"fathom/lang"
	"fathom/trial"
)

// What Flatten and Check are held against: the document's words once more. Names are copied wherever one is bound; a core is
// written out as a list of its codes, each with the slots that count there, and each of the words is asked of that list.

type counter struct {
	p    api.Program
	next int
}

func (c *counter) take() int {
	c.next++
	return c.next - 1
}

func with(names map[string]int, name string, slot int) map[string]int {
	more := maps.Clone(names)
	more[name] = slot
	return more
}

func flatByWords(p api.Program) api.Core {
	var c api.Core
	for _, f := range p.Funcs {
		n := &counter{p: p}
		names := map[string]int{}
		var params []api.Type
		for _, x := range f.Params {
			names[x.Name] = n.take()
			params = append(params, x.Type)
		}
		code := n.flatten(f.Body, names)
		c.Supers = append(c.Supers, api.Super{Name: f.Name, Params: params, Type: f.Type, Slots: n.next, Code: code})
	}
	return c
}

func (n *counter) all(parts []api.Expr, names map[string]int) []api.Code {
	var codes []api.Code
	for _, x := range parts {
		codes = append(codes, n.flatten(x, names))
	}
	return codes
}

func (n *counter) flatten(e api.Expr, names map[string]int) api.Code {
	switch e.Op {
	case api.OpNum:
		return api.Code{Op: api.CodeLit, Lit: api.Value{Type: api.TypeN, Num: e.Num}}
	case api.OpTrue:
		return api.Code{Op: api.CodeLit, Lit: api.Value{Type: api.TypeB, Bool: true}}
	case api.OpFalse:
		return api.Code{Op: api.CodeLit, Lit: api.Value{Type: api.TypeB}}
	case api.OpNil:
		return api.Code{Op: api.CodeLit, Lit: api.Value{Type: api.TypeL}}
	case api.OpFail:
		return api.Code{Op: api.CodeFail}
	case api.OpVar:
		return api.Code{Op: api.CodeVar, Slot: names[e.Name]}
	case api.OpIf:
		return api.Code{Op: api.CodeIf, Args: n.all(e.Args, names)}
	case api.OpCase:
		args := n.all(e.Args[:2], names)
		head := n.take()
		tail := n.take()
		args = append(args, n.flatten(e.Args[2], with(with(names, e.Name, head), e.Tail, tail)))
		return api.Code{Op: api.CodeCase, Slot: head, Slot2: tail, Args: args}
	case api.OpLet:
		slot := n.take()
		return api.Code{Op: api.CodeLet, Slot: slot, Args: n.all(e.Args, with(names, e.Name, slot))}
	case api.OpStrict:
		args := n.all(e.Args[:1], names)
		slot := n.take()
		args = append(args, n.flatten(e.Args[1], with(names, e.Name, slot)))
		return api.Code{Op: api.CodeStrict, Slot: slot, Args: args}
	case api.OpCall:
		f := slices.IndexFunc(n.p.Funcs, func(f api.Func) bool { return f.Name == e.Name })
		return n.within(e.Args, names, func(atoms []api.Atom) api.Code { return api.Code{Op: api.CodeCall, Func: f, Atoms: atoms} })
	case api.OpCons:
		return n.within(e.Args, names, func(atoms []api.Atom) api.Code { return api.Code{Op: api.CodeCons, Atoms: atoms} })
	}
	return api.Code{Op: api.CodePrim, Prim: e.Op, Args: n.all(e.Args, names)}
}

func (n *counter) within(parts []api.Expr, names map[string]int, inner func([]api.Atom) api.Code) api.Code {
	var atoms []api.Atom
	var slots []int
	var others []api.Expr
	for _, x := range parts {
		switch x.Op {
		case api.OpVar:
			atoms = append(atoms, api.Atom{Slot: names[x.Name]})
		case api.OpNum, api.OpTrue, api.OpFalse, api.OpNil:
			atoms = append(atoms, api.Atom{Slot: -1, Lit: n.flatten(x, names).Lit})
		default:
			slots = append(slots, n.take())
			others = append(others, x)
			atoms = append(atoms, api.Atom{Slot: slots[len(slots)-1]})
		}
	}
	return lets(slots, n.all(others, names), inner(atoms))
}

func lets(slots []int, codes []api.Code, inner api.Code) api.Code {
	if len(slots) == 0 {
		return inner
	}
	return api.Code{Op: api.CodeLet, Slot: slots[0], Args: []api.Code{codes[0], lets(slots[1:], codes[1:], inner)}}
}

// stand is a code with the slots that count where it stands.
type stand struct {
	code  api.Code
	slots []int
}

func stands(c api.Code, slots []int) []stand {
	all := []stand{{c, slots}}
	for i, x := range c.Args {
		inner := slices.Clone(slots)
		switch {
		case c.Op == api.CodeLet, c.Op == api.CodeStrict && i == 1:
			inner = append(inner, c.Slot)
		case c.Op == api.CodeCase && i == 2:
			inner = append(inner, c.Slot, c.Slot2)
		}
		all = append(all, stands(x, inner)...)
	}
	return all
}

func rightByWords(c api.Core) bool {
	if len(c.Supers) == 0 {
		return false
	}
	for i, s := range c.Supers {
		if slices.ContainsFunc(c.Supers[:i], func(ahead api.Super) bool { return ahead.Name == s.Name }) {
			return false
		}
		for _, t := range append(slices.Clone(s.Params), s.Type) {
			if t < api.TypeN || t > api.TypeL {
				return false
			}
		}
		var params []int
		for k := range s.Params {
			params = append(params, k)
		}
		all := stands(s.Code, params)
		if !boundByWords(s, all) || slices.ContainsFunc(all, func(x stand) bool { return !x.right(c) }) {
			return false
		}
	}
	return true
}

func boundByWords(s api.Super, all []stand) bool {
	var bound, want []int
	for _, x := range all {
		switch x.code.Op {
		case api.CodeCase:
			bound = append(bound, x.code.Slot, x.code.Slot2)
		case api.CodeLet, api.CodeStrict:
			bound = append(bound, x.code.Slot)
		}
	}
	if s.Slots-len(s.Params) != len(bound) {
		return false
	}
	for k := len(s.Params); k < s.Slots; k++ {
		want = append(want, k)
	}
	slices.Sort(bound)
	return slices.Equal(bound, want)
}

func (x stand) right(c api.Core) bool {
	args, atoms := 0, 0
	switch x.code.Op {
	case api.CodePrim:
		if x.code.Prim < api.OpAdd || x.code.Prim > api.OpConj {
			return false
		}
		args = 2
		if x.code.Prim >= api.OpNot {
			args = 1
		}
	case api.CodeIf, api.CodeCase:
		args = 3
	case api.CodeLet, api.CodeStrict:
		args = 2
	case api.CodeCall:
		if x.code.Func < 0 || x.code.Func > len(c.Supers)-1 {
			return false
		}
		atoms = len(c.Supers[x.code.Func].Params)
	case api.CodeCons:
		atoms = 2
	case api.CodeLit:
		if !literalByWords(x.code.Lit) {
			return false
		}
	case api.CodeVar:
		if !slices.Contains(x.slots, x.code.Slot) {
			return false
		}
	case api.CodeFail:
	default:
		return false
	}
	for _, a := range x.code.Atoms {
		if a.Slot == -1 && !literalByWords(a.Lit) || a.Slot != -1 && !slices.Contains(x.slots, a.Slot) {
			return false
		}
	}
	return len(x.code.Args) == args && len(x.code.Atoms) == atoms
}

func literalByWords(v api.Value) bool {
	if len(v.List) > 0 || v.Bool && v.Type != api.TypeB || v.Num != 0 && v.Type != api.TypeN {
		return false
	}
	whole := func(part float64) bool { return part == float64(int(part)) && part >= -api.Most && part <= api.Most }
	return v.Type >= api.TypeN && v.Type <= api.TypeL && whole(real(v.Num)) && whole(imag(v.Num))
}

// told is a code as the chapter's examples write it, with brackets around what is within.
func told(c api.Code) string {
	var within []string
	for _, x := range c.Args {
		within = append(within, "("+told(x)+")")
	}
	for _, a := range c.Atoms {
		within = append(within, toldAtom(a))
	}
	slot, all := strconv.Itoa(c.Slot), strings.Join(within, " ")
	if all != "" {
		all = " " + all
	}
	switch c.Op {
	case api.CodeLit:
		return toldAtom(api.Atom{Slot: -1, Lit: c.Lit})
	case api.CodeVar:
		return "var " + slot
	case api.CodeCall:
		return "call " + strconv.Itoa(c.Func) + all
	case api.CodePrim:
		return "prim " + strconv.Itoa(int(c.Prim)) + all
	case api.CodeCons:
		return "cons" + all
	case api.CodeIf:
		return "if" + all
	case api.CodeCase:
		return "case " + slot + " " + strconv.Itoa(c.Slot2) + all
	case api.CodeLet:
		return "let " + slot + all
	case api.CodeStrict:
		return "strict " + slot + all
	case api.CodeFail:
		return "fail"
	}
	return "?"
}

func toldAtom(a api.Atom) string {
	switch {
	case a.Slot >= 0:
		return "@" + strconv.Itoa(a.Slot)
	case a.Lit.Type == api.TypeN:
		return strconv.FormatComplex(a.Lit.Num, 'f', -1, 128)
	case a.Lit.Type == api.TypeB:
		return strconv.FormatBool(a.Lit.Bool)
	}
	return "nil"
}

var wide = api.Limits{Text: api.MaxWide, Funcs: 1 << 15, Arity: 1 << 15, Nest: 1 << 15}

func programOf(t *testing.T, text string) api.Program {
	t.Helper()
	p, f := lang.Parse([]byte(text), wide)
	if f != (api.Fault{}) {
		t.Fatalf("%.300q: %v", text, f)
	}
	return p
}

func coreOf(t *testing.T, text string) api.Core {
	t.Helper()
	c, e := Flatten(programOf(t, text))
	if e != api.OK {
		t.Fatalf("%.300q: %v", text, e)
	}
	return c
}

// drawPrograms are n sound programs of about so many parts a definition at most; the same each time for one seed.
func drawPrograms(t *testing.T, seed int64, n, room int) []api.Program {
	t.Helper()
	source := rand.New(rand.NewSource(seed))
	var all []api.Program
	for range n {
		all = append(all, programOf(t, trial.Program(source.Intn, room)))
	}
	return all
}
