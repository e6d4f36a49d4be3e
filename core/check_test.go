package core

import (
	"math"
	"math/rand"
	"slices"
	"strings"
	"testing"

	"fathom/api"
)

// P12.2

func lit(v api.Value) api.Code { return api.Code{Op: api.CodeLit, Lit: v} }

func variable(slot int) api.Code { return api.Code{Op: api.CodeVar, Slot: slot} }

func operation(op api.Op, args ...api.Code) api.Code {
	return api.Code{Op: api.CodePrim, Prim: op, Args: args}
}

func number(z complex128) api.Value { return api.Value{Type: api.TypeN, Num: z} }

// single is a core of one function, of so many parameters and slots.
func single(params, slots int, code api.Code) api.Core {
	return api.Core{Supers: []api.Super{{Name: "f", Params: slices.Repeat([]api.Type{api.TypeN}, params), Type: api.TypeN, Slots: slots, Code: code}}}
}

func expectCheck(t *testing.T, what string, c api.Core, want api.Errno) {
	t.Helper()
	if got := Check(c); got != want {
		t.Errorf("%s: %v, not %v: %v", what, got, want, c)
	}
	if rightByWords(c) != (want == api.OK) {
		t.Errorf("%s: by the words not %v: %v", what, want, c)
	}
}

func TestFunctions(t *testing.T) {
	one := lit(number(1))
	for _, c := range []api.Core{{}, {Supers: []api.Super{}}} {
		expectCheck(t, "of no function", c, api.ErrShape)
	}
	named := func(names ...string) (c api.Core) {
		for _, name := range names {
			c.Supers = append(c.Supers, api.Super{Name: name, Type: api.TypeN, Code: one})
		}
		return c
	}
	for _, names := range [][]string{{"f"}, {""}, {"f", "g"}, {"f", "ff", "F", "f "}, {"let", "1", "", "\xff"}} {
		expectCheck(t, strings.Join(names, " "), named(names...), api.OK)
	}
	for _, names := range [][]string{{"f", "f"}, {"f", "g", "f"}, {"", "f", ""}, {"f", "g", "h", "g"}} {
		expectCheck(t, strings.Join(names, " "), named(names...), api.ErrShape)
	}
	for kind := api.Type(-1); kind < 6; kind++ {
		want := api.ErrShape
		if kind >= api.TypeN && kind <= api.TypeL {
			want = api.OK
		}
		c := named("f", "g")
		c.Supers[1].Type = kind
		expectCheck(t, "a type", c, want)
		for i := range 3 {
			c := single(3, 3, one)
			c.Supers[0].Params[i] = kind
			expectCheck(t, "a parameter's type", c, want)
		}
	}
}

func TestOps(t *testing.T) {
	for op := api.CodeOp(-2); op < 14; op++ {
		want := api.ErrShape
		if op == api.CodeLit || op == api.CodeVar || op == api.CodeFail {
			want = api.OK
		}
		code := api.Code{Op: op, Lit: number(1)}
		expectCheck(t, "an Op alone", single(1, 1, code), want)
		expectCheck(t, "an Op within", single(1, 1, operation(api.OpConj, code)), want)
	}
	for _, op := range []api.CodeOp{math.MinInt, math.MaxInt, 1 << 32} {
		expectCheck(t, "a great Op", single(1, 1, api.Code{Op: op}), api.ErrShape)
	}
}

// How many Args and Atoms each Op has, all else being right: f has two parameters and calls itself.
func TestCounts(t *testing.T) {
	args := map[api.CodeOp]int{api.CodePrim: 2, api.CodeIf: 3, api.CodeCase: 3, api.CodeLet: 2, api.CodeStrict: 2}
	atoms := map[api.CodeOp]int{api.CodeCall: 2, api.CodeCons: 2}
	slots := map[api.CodeOp]int{api.CodeCase: 4, api.CodeLet: 3, api.CodeStrict: 3}
	for op := api.CodeLit; op <= api.CodeFail; op++ {
		for m := range 5 {
			for n := range 5 {
				code := api.Code{Op: op, Prim: api.OpAdd, Lit: number(0), Args: slices.Repeat([]api.Code{variable(1)}, m), Atoms: make([]api.Atom, n)}
				if op != api.CodeVar {
					code.Slot, code.Slot2 = 2, 3
				}
				want := api.ErrShape
				if m == args[op] && n == atoms[op] {
					want = api.OK
				}
				expectCheck(t, told(code), single(2, max(2, slots[op]), code), want)
			}
		}
	}
	for op := api.Op(-1); op < 25; op++ {
		for n := range 4 {
			want := api.ErrShape
			if op >= api.OpAdd && op <= api.OpLess && n == 2 || op >= api.OpNot && op <= api.OpConj && n == 1 {
				want = api.OK
			}
			expectCheck(t, "a Prim", single(1, 1, operation(op, slices.Repeat([]api.Code{variable(0)}, n)...)), want)
		}
	}
}

func TestCalls(t *testing.T) {
	two := func(code api.Code) api.Core {
		c := single(1, 1, code)
		c.Supers = append(c.Supers, single(3, 3, lit(number(1))).Supers[0])
		c.Supers[1].Name = "g"
		return c
	}
	for f := -2; f < 5; f++ {
		for n := range 5 {
			want := api.ErrShape
			if f == 0 && n == 1 || f == 1 && n == 3 {
				want = api.OK
			}
			expectCheck(t, "a call", two(api.Code{Op: api.CodeCall, Func: f, Atoms: make([]api.Atom, n)}), want)
		}
	}
	for _, f := range []int{math.MinInt, math.MaxInt, 1 << 32} {
		expectCheck(t, "a call of a great number", two(api.Code{Op: api.CodeCall, Func: f, Atoms: make([]api.Atom, 1)}), api.ErrShape)
		expectCheck(t, "a call of a great number", two(api.Code{Op: api.CodeCall, Func: f}), api.ErrShape)
	}
	expectCheck(t, "a call of nothing", single(0, 0, api.Code{Op: api.CodeCall}), api.OK)
}

func TestLiterals(t *testing.T) {
	minus := math.Copysign(0, -1)
	right := []api.Value{
		number(0), number(-1), number(2 - 3i), number(complex(api.Most, -api.Most)), {Type: api.TypeB}, {Type: api.TypeB, Bool: true}, {Type: api.TypeL}, {Type: api.TypeL, List: []complex128{}}, {Type: api.TypeN, Num: 1, List: []complex128{}},
	}
	wrong := []api.Value{
		{}, {Num: 1}, {Type: 4}, {Type: -1}, number(0.5), number(0.5i), number(api.Most + 1), number(complex(0, -api.Most-1)), number(complex(math.NaN(), 0)), number(complex(0, math.Inf(1))),
		{Type: api.TypeN, Num: 1, Bool: true}, {Type: api.TypeN, List: []complex128{1}}, {Type: api.TypeB, Num: 1}, {Type: api.TypeB, Bool: true, List: []complex128{0}},
		{Type: api.TypeL, Num: 1}, {Type: api.TypeL, Bool: true}, {Type: api.TypeL, List: []complex128{1}}, {Type: api.TypeL, List: []complex128{0, 0}}, {Type: api.TypeL, Num: 1i},
	}
	places := func(v api.Value) []api.Core {
		atom, free := api.Atom{Slot: -1, Lit: v}, api.Atom{}
		return []api.Core{
			single(0, 0, lit(v)), single(0, 0, operation(api.OpAdd, lit(v), lit(number(1)))), single(1, 1, api.Code{Op: api.CodeCall, Atoms: []api.Atom{atom}}),
			single(1, 1, api.Code{Op: api.CodeCons, Atoms: []api.Atom{atom, free}}), single(1, 1, api.Code{Op: api.CodeCons, Atoms: []api.Atom{free, atom}}),
			single(1, 2, api.Code{Op: api.CodeLet, Slot: 1, Args: []api.Code{{Op: api.CodeCons, Atoms: []api.Atom{free, atom}}, variable(0)}}),
		}
	}
	for _, v := range right {
		for _, c := range places(v) {
			expectCheck(t, "a literal", c, api.OK)
		}
	}
	for _, v := range wrong {
		for _, c := range places(v) {
			expectCheck(t, "no literal", c, api.ErrShape)
		}
	}
	// No number has a part of -0 (layers 1 and 9).
	for _, v := range []api.Value{number(complex(minus, 0)), number(complex(1, minus)), {Type: api.TypeB, Num: complex(minus, 0)}, {Type: api.TypeL, Num: complex(0, minus)}} {
		for _, c := range places(v) {
			if Check(c) != api.ErrShape {
				t.Errorf("a -0: %v", c)
			}
		}
	}
}

// binders are a let, a strict and a case of these slots and parts: the first part of the case is the first, too.
func binders(slot, slot2 int, first, last api.Code) []api.Code {
	return []api.Code{
		{Op: api.CodeLet, Slot: slot, Args: []api.Code{first, last}},
		{Op: api.CodeStrict, Slot: slot, Args: []api.Code{first, last}},
		{Op: api.CodeCase, Slot: slot, Slot2: slot2, Args: []api.Code{first, {Op: api.CodeFail}, last}},
		{Op: api.CodeCase, Slot: slot, Slot2: slot2, Args: []api.Code{{Op: api.CodeFail}, first, last}},
	}
}

// bound is how many slots a code binds itself.
func bound(c api.Code) int {
	switch c.Op {
	case api.CodeLet, api.CodeStrict:
		return 1
	case api.CodeCase:
		return 2
	}
	return 0
}

func TestSlotsOfOneBinder(t *testing.T) {
	fail := api.Code{Op: api.CodeFail}
	for params := range 3 {
		for slot := -2; slot < 7; slot++ {
			for slot2 := -2; slot2 < 7; slot2++ {
				for slots := -1; slots < 7; slots++ {
					for _, code := range binders(slot, slot2, fail, fail) {
						want := api.ErrShape
						least, greatest := slot, slot
						if code.Op == api.CodeCase {
							least, greatest = min(slot, slot2), max(slot, slot2)
						}
						if least == params && greatest == params+bound(code)-1 && slots == params+bound(code) {
							want = api.OK
						}
						expectCheck(t, told(code), single(params, slots, code), want)
					}
				}
			}
		}
	}
}

func TestSlotsOfNoBinder(t *testing.T) {
	for params := range 4 {
		for slots := -5; slots < 6; slots++ {
			want := api.ErrShape
			if slots == params {
				want = api.OK
			}
			expectCheck(t, "slots", single(params, slots, api.Code{Op: api.CodeFail}), want)
		}
		for _, slots := range []int{math.MinInt, math.MinInt + 1, math.MaxInt, 1 << 40, 1<<32 + params} {
			c := single(params, slots, api.Code{Op: api.CodeFail})
			if Check(c) != api.ErrShape {
				t.Errorf("%d parameters, %d slots", params, slots)
			}
			for _, slot := range []int{math.MinInt, math.MaxInt, math.MaxInt - 1, params} {
				for _, code := range binders(slot, slot-1, variable(0), variable(slot)) {
					if c := single(params, slots, code); Check(c) != api.ErrShape {
						t.Errorf("%d parameters, %d slots, %s", params, slots, told(code))
					}
				}
			}
		}
	}
}

// uses are a slot used by each that may: a variable, an atom of a call, of a cons.
func uses(slot int) []api.Code {
	return []api.Code{
		variable(slot), operation(api.OpConj, variable(slot)), {Op: api.CodeCall, Atoms: []api.Atom{{Slot: slot}}}, {Op: api.CodeCons, Atoms: []api.Atom{{}, {Slot: slot}}},
		{Op: api.CodeCons, Atoms: []api.Atom{{Slot: slot}, {Slot: -1, Lit: number(1)}}}, {Op: api.CodeIf, Args: []api.Code{variable(0), variable(slot), variable(0)}},
	}
}

// Where the slots count that a let, a strict, a case bind: slot 0 is the parameter's.
func TestWhereSlotsCount(t *testing.T) {
	zero := variable(0)
	for slot := -3; slot < 5; slot++ {
		for _, use := range uses(slot) {
			want := func(is bool) api.Errno {
				if is {
					return api.OK
				}
				return api.ErrShape
			}
			expectCheck(t, "nothing bound", single(1, 1, use), want(slot == 0))
			for k, code := range binders(1, 2, use, zero) {
				expectCheck(t, "first: "+told(code), single(1, 1+bound(code), code), want(slot == 0 || k == 0 && slot == 1))
			}
			for _, code := range binders(1, 2, zero, use) {
				expectCheck(t, "last: "+told(code), single(1, 1+bound(code), code), want(slot >= 0 && slot <= bound(code)))
			}
			for _, code := range binders(1, 2, zero, zero) {
				slots := 1 + bound(code)
				expectCheck(t, "behind: "+told(code), single(1, slots, operation(api.OpAdd, code, use)), want(slot == 0))
				expectCheck(t, "ahead: "+told(code), single(1, slots, operation(api.OpAdd, use, code)), want(slot == 0))
				for _, around := range binders(slots, slots+1, code, use) {
					counts := slot == 0 || slot >= slots && slot < slots+bound(around)
					expectCheck(t, "within: "+told(around), single(1, slots+bound(around), around), want(counts))
				}
				for _, around := range binders(slots, slots+1, zero, operation(api.OpAdd, code, use)) {
					counts := slot == 0 || slot >= slots && slot < slots+bound(around)
					expectCheck(t, "behind, within: "+told(around), single(1, slots+bound(around), around), want(counts))
				}
			}
		}
	}
}

// Slots that are bound around count within, however deep; each slot once, in whatever order.
func TestSlotsWithinOneAnother(t *testing.T) {
	for _, order := range [][]int{{1, 2, 3}, {1, 3, 2}, {2, 1, 3}, {2, 3, 1}, {3, 1, 2}, {3, 2, 1}} {
		inner := operation(api.OpAdd, operation(api.OpAdd, variable(1), variable(2)), operation(api.OpAdd, variable(3), variable(0)))
		for _, op := range []api.CodeOp{api.CodeLet, api.CodeStrict} {
			code := inner
			for _, slot := range order {
				code = api.Code{Op: op, Slot: slot, Args: []api.Code{variable(0), code}}
			}
			expectCheck(t, told(code), single(1, 4, code), api.OK)
			expectCheck(t, told(code), single(2, 4, code), api.ErrShape)
			expectCheck(t, told(code), single(0, 4, code), api.ErrShape)
			expectCheck(t, told(code), single(1, 5, code), api.ErrShape)
			expectCheck(t, told(code), single(1, 3, code), api.ErrShape)
		}
	}
	fail := api.Code{Op: api.CodeFail}
	for _, a := range binders(1, 2, fail, fail) {
		for _, b := range binders(1, 2, fail, fail) {
			slots := 1 + bound(a) + bound(b)
			expectCheck(t, "one slot twice", single(1, slots, operation(api.OpAdd, a, b)), api.ErrShape)
			for _, around := range binders(1, 2, a, fail) {
				expectCheck(t, "one slot twice", single(1, 1+bound(a)+bound(around), around), api.ErrShape)
				expectCheck(t, "one slot twice", single(1, 1+max(bound(a), bound(around)), around), api.ErrShape)
			}
		}
	}
}

// Slots of each function are its own.
func TestSlotsOfTwoFunctions(t *testing.T) {
	c := coreOf(t, "f(x N):N=let y N=x in y;g():N=let y N=1 in let z N=y in f(z);")
	expectCheck(t, "as it was", c, api.OK)
	c.Supers[0].Slots = 3
	expectCheck(t, "one slot of another function's", c, api.ErrShape)
	c = coreOf(t, "f(x N):N=let y N=x in y;g():N=1;")
	c.Supers[1].Code = variable(0)
	expectCheck(t, "a parameter of another function's", c, api.ErrShape)
	c.Supers[1].Code = variable(1)
	expectCheck(t, "a slot of another function's", c, api.ErrShape)
}

// What isn't named isn't looked at: fields that an Op doesn't have, Lit of a slot, types of things.
func TestWhatIsNotLookedAt(t *testing.T) {
	odd := api.Value{Type: 9, Num: 0.5, Bool: true, List: []complex128{7}}
	fill := func(c api.Code) api.Code {
		if c.Op != api.CodeLit {
			c.Lit = odd
		}
		if c.Op != api.CodeCall {
			c.Func = -7
		}
		if c.Op != api.CodePrim {
			c.Prim = 99
		}
		if c.Op != api.CodeCase {
			c.Slot2 = 50
		}
		if bound(c) == 0 && c.Op != api.CodeVar {
			c.Slot = -50
		}
		return c
	}
	var filled func(c api.Code) api.Code
	filled = func(c api.Code) api.Code {
		c = fill(c)
		for i := range c.Args {
			c.Args[i] = filled(c.Args[i])
		}
		for i := range c.Atoms {
			if c.Atoms[i].Slot >= 0 {
				c.Atoms[i].Lit = odd
			}
		}
		return c
	}
	for _, p := range drawPrograms(t, 122, 300, 40) {
		c, _ := Flatten(p)
		for i := range c.Supers {
			c.Supers[i].Code = filled(c.Supers[i].Code)
		}
		expectCheck(t, "filled", c, api.OK)
	}
	expectCheck(t, "not of a number", single(1, 1, operation(api.OpNot, operation(api.OpAdd, lit(api.Value{Type: api.TypeL}), variable(0)))), api.OK)
	expectCheck(t, "an if of a list", single(0, 0, api.Code{Op: api.CodeIf, Args: []api.Code{lit(api.Value{Type: api.TypeL}), lit(number(1)), {Op: api.CodeFail}}}), api.OK)
	expectCheck(t, "a cons of bools", single(0, 0, api.Code{Op: api.CodeCons, Atoms: []api.Atom{{Slot: -1, Lit: api.Value{Type: api.TypeB}}, {Slot: -1, Lit: number(1)}}}), api.OK)
}

// turner changes right cores at drawn places.
type turner struct{ source *rand.Rand }

func (r turner) number() int { return r.source.Intn(9) - 2 }

func (r turner) value() api.Value {
	return []api.Value{{}, number(3), number(0.5), {Type: api.TypeB, Bool: true}, {Type: api.TypeB, Num: 1}, {Type: api.TypeL}, {Type: api.TypeL, List: []complex128{1}}}[r.source.Intn(7)]
}

func codesOf(c *api.Code) []*api.Code {
	all := []*api.Code{c}
	for i := range c.Args {
		all = append(all, codesOf(&c.Args[i])...)
	}
	return all
}

func (r turner) turn(c *api.Core) {
	s := &c.Supers[r.source.Intn(len(c.Supers))]
	codes := codesOf(&s.Code)
	x := codes[r.source.Intn(len(codes))]
	switch r.source.Intn(16) {
	case 0:
		x.Op = api.CodeOp(r.source.Intn(12))
	case 1:
		x.Slot = r.number()
	case 2:
		x.Slot2 = r.number()
	case 3:
		x.Func = r.source.Intn(len(c.Supers)+2) - 1
	case 4:
		x.Prim = api.Op(r.source.Intn(25))
	case 5:
		x.Lit = r.value()
	case 6:
		x.Args = append(slices.Clone(x.Args), api.Code{Op: api.CodeFail})
	case 7:
		if len(x.Args) > 0 {
			x.Args = x.Args[:len(x.Args)-1]
		}
	case 8:
		x.Atoms = append(slices.Clone(x.Atoms), api.Atom{Slot: -1, Lit: number(1)})
	case 9, 10:
		if len(x.Atoms) > 0 {
			x.Atoms[r.source.Intn(len(x.Atoms))] = api.Atom{Slot: r.number(), Lit: r.value()}
		}
	case 11:
		s.Slots += r.source.Intn(5) - 2
	case 12:
		s.Params = append(slices.Clone(s.Params), api.Type(r.source.Intn(5)))
	case 13:
		s.Type = api.Type(r.source.Intn(5))
	case 14:
		*x = api.Code{Op: api.CodeFail}
	case 15:
		r.swap(s, codes)
	}
}

// swap exchanges two slots that are no parameters', wherever they stand.
func (r turner) swap(s *api.Super, codes []*api.Code) {
	room := s.Slots - len(s.Params)
	if room < 2 {
		return
	}
	a, b := len(s.Params)+r.source.Intn(room), len(s.Params)+r.source.Intn(room)
	other := func(slot *int) {
		switch *slot {
		case a:
			*slot = b
		case b:
			*slot = a
		}
	}
	for _, x := range codes {
		other(&x.Slot)
		other(&x.Slot2)
		for i := range x.Atoms {
			other(&x.Atoms[i].Slot)
		}
	}
}

func TestTurnedCores(t *testing.T) {
	r := turner{rand.New(rand.NewSource(123))}
	right, wrong := 0, 0
	for _, p := range drawPrograms(t, 124, 4000, 40) {
		c, _ := Flatten(p)
		for range 6 {
			r.turn(&c)
			want := api.ErrShape
			if rightByWords(c) {
				want = api.OK
				right++
			} else {
				wrong++
			}
			if got := Check(c); got != want {
				t.Fatalf("%v, not %v: %v", got, want, c)
			}
		}
	}
	if right < 2000 || wrong < 2000 {
		t.Errorf("%d were right, %d wrong", right, wrong)
	}
}
