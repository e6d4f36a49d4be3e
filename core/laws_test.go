package core

import (
	"maps"
	"reflect"
	"slices"
	"strconv"
	"testing"

	"fathom/api"
	"fathom/show"
	"fathom/trial"
	"fathom/types"
)

// P12.3

// renamer gives each binding a name of its own, and all that has a place another one.
type renamer struct{ next int }

func (r *renamer) name() string {
	r.next++
	return "v" + strconv.Itoa(r.next)
}

func (r *renamer) program(p api.Program) api.Program {
	var q api.Program
	for _, f := range p.Funcs {
		names := map[string]string{}
		var params []api.Param
		for _, x := range f.Params {
			names[x.Name] = r.name()
			params = append(params, api.Param{Name: names[x.Name], Type: x.Type, At: 3 * r.next})
		}
		q.Funcs = append(q.Funcs, api.Func{Name: f.Name, Params: params, Type: f.Type, Body: r.expr(f.Body, names), At: -f.At})
	}
	return q
}

func (r *renamer) expr(e api.Expr, names map[string]string) api.Expr {
	inner := maps.Clone(names)
	out := e
	out.At, out.Args = 7*e.At+1, nil
	switch e.Op {
	case api.OpVar:
		out.Name = names[e.Name]
	case api.OpLet, api.OpStrict:
		out.Name = r.name()
		inner[e.Name] = out.Name
	case api.OpCase:
		out.Name, out.Tail = r.name(), r.name()
		inner[e.Name] = out.Name
		inner[e.Tail] = out.Tail
	}
	for i, x := range e.Args {
		within := names
		if e.Op == api.OpLet || e.Op == api.OpStrict && i == 1 || e.Op == api.OpCase && i == 2 {
			within = inner
		}
		out.Args = append(out.Args, r.expr(x, within))
	}
	return out
}

func TestNamesOfWhatIsBound(t *testing.T) {
	for _, p := range drawPrograms(t, 125, 2000, 60) {
		q := (&renamer{}).program(p)
		if types.Check(q) != (api.Fault{}) {
			t.Fatalf("%s is not sound", show.Program(q))
		}
		want, _ := Flatten(p)
		if got, e := Flatten(q); e != api.OK || !reflect.DeepEqual(got, want) {
			t.Fatalf("%s, and %s: %v, %v, not %v", show.Program(p), show.Program(q), e, got, want)
		}
	}
}

func TestPlacesAlone(t *testing.T) {
	for _, p := range drawPrograms(t, 126, 1000, 60) {
		want, _ := Flatten(p)
		if got := coreOf(t, show.Program(p)); !reflect.DeepEqual(got, want) {
			t.Fatalf("%s: %v, not %v", show.Program(p), got, want)
		}
	}
}

// What is not the same has another Core: names of functions, types of parameters, which binding is meant.
func TestOtherPrograms(t *testing.T) {
	for _, r := range [][2]string{
		{"f():N=1;", "g():N=1;"}, {"f():N=fail N;", "f():L=fail L;"}, {"f(x N):N=1;", "f(x L):N=1;"}, {"f(x N):N=1;", "f():N=1;"}, {"f(x N,y N):N=x;", "f(x N,y N):N=y;"}, {"f():N=1;", "f():N=2;"},
		{"f(x N):N=let y N=x in x;", "f(x N):N=let y N=x in y;"}, {"f(x N):N=let y N=x in y;", "f(x N):N=let x N=x in x;"}, {"f(x N):N=let y N=x in y;", "f(x N):N=strict y N=x in y;"},
		{"f():N=g();g():N=1;", "f():N=f();g():N=1;"}, {"f():N=1;g():N=1;", "g():N=1;f():N=1;"}, {"f(x N):N=1+x;", "f(x N):N=x+1;"}, {"f(l L):L=1:2:l;", "f(l L):L=2:1:l;"},
	} {
		if reflect.DeepEqual(coreOf(t, r[0]), coreOf(t, r[1])) {
			t.Errorf("%s and %s have one Core", r[0], r[1])
		}
	}
	// The type that a let's name has is no part of a Core.
	if !reflect.DeepEqual(coreOf(t, "f():N=let x N=fail N in 1;"), coreOf(t, "f():N=let x L=fail L in 1;")) {
		t.Error("the type of a let is in the Core")
	}
}

// P12.4

func roomyCode(c api.Code) api.Code {
	args := make([]api.Code, len(c.Args))
	for i, x := range c.Args {
		args[i] = roomyCode(x)
	}
	c.Args = trial.Roomy(args, api.Code{Op: api.CodeCall, Func: -9})
	atoms := slices.Clone(c.Atoms)
	for i := range atoms {
		atoms[i].Lit.List = trial.Roomy(atoms[i].Lit.List, 8)
	}
	c.Atoms, c.Lit.List = trial.Roomy(atoms, api.Atom{Slot: -9}), trial.Roomy(c.Lit.List, 7)
	return c
}

func roomyCore(c api.Core) api.Core {
	var supers []api.Super
	for _, s := range c.Supers {
		s.Params, s.Code = trial.Roomy(s.Params, 9), roomyCode(s.Code)
		supers = append(supers, s)
	}
	return api.Core{Supers: trial.Roomy(supers, api.Super{Name: "spare", Slots: -9})}
}

func wholeCode(c api.Code) api.Code {
	var args []api.Code
	for _, x := range c.Args[:cap(c.Args)] {
		args = append(args, wholeCode(x))
	}
	atoms := slices.Clone(c.Atoms[:cap(c.Atoms)])
	for i := range atoms {
		atoms[i].Lit.List = slices.Clone(atoms[i].Lit.List[:cap(atoms[i].Lit.List)])
	}
	c.Args, c.Atoms, c.Lit.List = args, atoms, slices.Clone(c.Lit.List[:cap(c.Lit.List)])
	return c
}

func wholeCore(c api.Core) api.Core {
	var d api.Core
	for _, s := range c.Supers[:cap(c.Supers)] {
		s.Params, s.Code = slices.Clone(s.Params[:cap(s.Params)]), wholeCode(s.Code)
		d.Supers = append(d.Supers, s)
	}
	return d
}

func TestWhatIsHandedInStays(t *testing.T) {
	for _, drawn := range drawPrograms(t, 127, 1000, 40) {
		p := trial.RoomyProgram(drawn)
		before := trial.WholeProgram(p)
		want, _ := Flatten(drawn)
		got, e := Flatten(p)
		if e != api.OK || !reflect.DeepEqual(got, want) {
			t.Fatalf("%v: %v hangs on spare room, is not %v", drawn, got, want)
		}
		if !reflect.DeepEqual(trial.WholeProgram(p), before) {
			t.Fatalf("%v: no longer %v", trial.WholeProgram(p), before)
		}
		c := roomyCore(got)
		old := wholeCore(c)
		if Check(c) != api.OK {
			t.Fatalf("%v: hangs on spare room", c)
		}
		c.Supers[0].Code.Op = 99
		old.Supers[0].Code.Op = 99
		if Check(c) != api.ErrShape || !reflect.DeepEqual(wholeCore(c), old) {
			t.Fatalf("%v: no longer %v", wholeCore(c), old)
		}
	}
}

// lists are where a core's elements lie, those of spare room too.
type lists struct {
	supers map[*api.Super]int
	params map[*api.Type]int
	codes  map[*api.Code]int
	atoms  map[*api.Atom]int
	elems  map[*complex128]int
}

func count[T any](all map[*T]int, list []T) {
	for i := range list[:cap(list)] {
		all[&list[:cap(list)][i]]++
	}
}

func (l lists) add(c api.Core) {
	count(l.supers, c.Supers)
	for _, s := range c.Supers {
		count(l.params, s.Params)
		l.addCode(s.Code)
	}
}

func (l lists) addCode(c api.Code) {
	count(l.codes, c.Args)
	count(l.atoms, c.Atoms)
	count(l.elems, c.Lit.List)
	for _, a := range c.Atoms {
		count(l.elems, a.Lit.List)
	}
	for _, x := range c.Args {
		l.addCode(x)
	}
}

func shared[T any](all map[*T]int) bool {
	for _, n := range all {
		if n > 1 {
			return true
		}
	}
	return false
}

func TestAnswersAreNewMemory(t *testing.T) {
	for _, p := range drawPrograms(t, 128, 500, 60) {
		l := lists{map[*api.Super]int{}, map[*api.Type]int{}, map[*api.Code]int{}, map[*api.Atom]int{}, map[*complex128]int{}}
		for range 2 {
			c, _ := Flatten(p)
			l.add(c)
		}
		if shared(l.supers) || shared(l.params) || shared(l.codes) || shared(l.atoms) || shared(l.elems) {
			t.Fatalf("%v: two lists share memory", p)
		}
	}
}

// What is asked hangs on nothing that was asked before.
func TestCallsAreApart(t *testing.T) {
	good, bad := programOf(t, "f(x N):N=let y N=f(x+1) in y;"), programOf(t, "f(x N):N=let y N=f(x+1) in z;")
	want, _ := Flatten(good)
	for range 3 {
		if c, e := Flatten(bad); e != api.ErrShape || c.Supers != nil {
			t.Error(c, e)
		}
		if Check(api.Core{}) != api.ErrShape || Check(want) != api.OK {
			t.Error("Check")
		}
		if got, e := Flatten(good); e != api.OK || !reflect.DeepEqual(got, want) {
			t.Error(got, e)
		}
	}
}

// Parts may be nested 2^16 deep, each at any place of an Op's parts; each answer takes time that grows with their number alone.
func TestDeep(t *testing.T) {
	const deep = 1<<16 - 1
	for _, text := range []string{
		"n+n", "n-n", "conj(n)", "if b then n else n", "case l of nil->n|h:t->n", "let x N=n in n", "strict x N=n in n", "f(n,b,l)", "let x B=b in n", "strict x L=l in n", "case l of nil->n|n:l->n",
	} {
		pattern := programOf(t, "f(n N,b B,l L):N="+text+";").Funcs[0]
		for at, part := range pattern.Body.Args {
			if part.Name != "n" {
				continue
			}
			e := part
			for range deep {
				outer := pattern.Body
				outer.Args = slices.Clone(outer.Args)
				outer.Args[at] = e
				e = outer
			}
			f := pattern
			f.Body = e
			c, why := Flatten(api.Program{Funcs: []api.Func{f}})
			if why != api.OK || Check(c) != api.OK {
				t.Fatalf("%s at %d: %v", text, at, why)
			}
			c.Supers[0].Slots++
			if Check(c) != api.ErrShape {
				t.Errorf("%s at %d: a slot more", text, at)
			}
		}
	}
}

// A list of many elements, as deep a cons, and a call of many arguments, which is far more lets within one another.
func TestWide(t *testing.T) {
	const deep, wide = 1<<16 - 1, 1 << 19
	e := api.Expr{Op: api.OpNil}
	for range deep {
		e = api.Expr{Op: api.OpCons, Args: []api.Expr{{Op: api.OpFail, Type: api.TypeN}, e}}
	}
	c, why := Flatten(api.Program{Funcs: []api.Func{{Name: "f", Type: api.TypeL, Body: e}}})
	if why != api.OK || Check(c) != api.OK || c.Supers[0].Slots != 2*deep-1 {
		t.Errorf("a list: %v, %d", why, c.Supers[0].Slots)
	}
	f := api.Func{Name: "f", Type: api.TypeN, Body: api.Expr{Op: api.OpCall, Name: "f"}}
	for i := range wide {
		f.Params = append(f.Params, api.Param{Name: "x" + strconv.Itoa(i), Type: api.TypeN})
		f.Body.Args = append(f.Body.Args, api.Expr{Op: api.OpFail, Type: api.TypeN})
	}
	c, why = Flatten(api.Program{Funcs: []api.Func{f}})
	if why != api.OK || Check(c) != api.OK || c.Supers[0].Slots != 2*wide {
		t.Fatalf("a call: %v", why)
	}
	code := &c.Supers[0].Code
	for i := range wide {
		if code.Op != api.CodeLet || code.Slot != wide+i || code.Args[0].Op != api.CodeFail {
			t.Fatalf("a call: let %d is %v %d", i, code.Op, code.Slot)
		}
		code = &code.Args[1]
	}
	for i, a := range code.Atoms {
		if code.Op != api.CodeCall || !reflect.DeepEqual(a, api.Atom{Slot: wide + i}) {
			t.Fatalf("a call: atom %d is %v", i, a)
		}
	}
	code.Atoms[wide/2].Slot = 2 * wide
	if Check(c) != api.ErrShape {
		t.Error("a call: of a slot that there isn't")
	}
}

func TestManyFunctions(t *testing.T) {
	const many = 1 << 15
	var p api.Program
	for i := range many {
		call := api.Expr{Op: api.OpCall, Name: "f" + strconv.Itoa(many-1-i), Args: []api.Expr{{Op: api.OpVar, Name: "x"}}}
		p.Funcs = append(p.Funcs, api.Func{Name: "f" + strconv.Itoa(i), Params: []api.Param{{Name: "x", Type: api.TypeL}}, Type: api.TypeB, Body: call})
	}
	c, why := Flatten(p)
	if why != api.OK || Check(c) != api.OK {
		t.Fatal(why)
	}
	for i, s := range c.Supers {
		if s.Name != p.Funcs[i].Name || s.Code.Func != many-1-i {
			t.Fatalf("%d: %v", i, s)
		}
	}
	c.Supers[many-1].Name = "f0"
	if Check(c) != api.ErrShape {
		t.Error("a name twice")
	}
}
