package mean

import (
	"math"
	"reflect"
	"slices"
	"strconv"
	"testing"

	"fathom/api"
	"fathom/show"
	"fathom/trial"
	"fathom/value"
)

// Drawn calls end as the words say, whatever the most is.
func TestByWords(t *testing.T) {
	ends := map[api.Errno]int{}
	for _, c := range drawCalls(t, 111, 2000, 40) {
		for _, most := range []int{0, 1, 2, 3, 7, 20, 300, 2000} {
			got, want := Call(c.p, c.f.Name, c.args, most), byWords(c.p, c.f.Name, c.args, most)
			if !same(got, want) {
				t.Fatalf("%s%s %v, %d: %v, not %v", c.text, c.f.Name, c.args, most, got, want)
			}
			if most == 2000 {
				ends[got.Why]++
			}
		}
	}
	for _, why := range []api.Errno{api.OK, api.TrapOver, api.TrapDiv, api.TrapFail, api.ErrFuel} {
		if ends[why] < 50 {
			t.Errorf("only %d calls ended with %v", ends[why], why)
		}
	}
	if len(ends) != 5 {
		t.Error(ends)
	}
}

// P11.3

func TestGreaterMost(t *testing.T) {
	for _, c := range drawCalls(t, 112, 250, 30) {
		whole := Call(c.p, c.f.Name, c.args, 200)
		if whole.Why == api.OK && (value.Check(whole.Value) != api.OK || whole.Value.Type != c.f.Type) {
			t.Fatalf("%s%s %v: %v", c.text, c.f.Name, c.args, whole)
		}
		for most := range 200 {
			want := whole
			if most < whole.Moves {
				want = api.Result{Why: api.ErrFuel, Moves: most}
			}
			if got := Call(c.p, c.f.Name, c.args, most); !same(got, want) {
				t.Fatalf("%s%s %v, %d: %v, not %v", c.text, c.f.Name, c.args, most, got, want)
			}
		}
		if whole.Why == api.ErrFuel {
			continue
		}
		for _, most := range []int{200, 201, 1 << 40} {
			if got := Call(c.p, c.f.Name, c.args, most); !same(got, whole) {
				t.Fatalf("%s%s %v, %d: %v, not %v", c.text, c.f.Name, c.args, most, got, whole)
			}
		}
	}
}

// A let of a name that isn't used is one look more, whatever the name is; a strict is that, and the looks at what the name is.
func TestLetAndStrictAround(t *testing.T) {
	for _, c := range drawCalls(t, 113, 1000, 30) {
		plain := Call(c.p, c.f.Name, c.args, 1000)
		if plain.Why == api.ErrFuel {
			continue
		}
		i := slices.IndexFunc(c.p.Funcs, func(f api.Func) bool { return f.Name == c.f.Name })
		for _, op := range []api.Op{api.OpLet, api.OpStrict} {
			p := api.Program{Funcs: slices.Clone(c.p.Funcs)}
			first := api.Expr{Op: api.OpTrue}
			if op == api.OpLet {
				first = api.Expr{Op: api.OpFail, Type: api.TypeB}
			}
			around := api.Func{Name: "around", Params: c.f.Params, Type: c.f.Type}
			around.Body = api.Expr{Op: op, Name: "unused", Type: api.TypeB, Args: []api.Expr{first, c.p.Funcs[i].Body}}
			p.Funcs = append(p.Funcs, around)
			want := plain
			want.Moves += int(op-api.OpLet) + 1
			if got := Call(p, "around", c.args, 1010); !same(got, want) {
				t.Fatalf("%saround %v: %v, not %v", show.Program(p), c.args, got, want)
			}
		}
	}
}

// A call of a function without parameters is one look more than its body.
func TestCallAround(t *testing.T) {
	for _, c := range drawCalls(t, 114, 500, 30) {
		if len(c.f.Params) > 0 {
			continue
		}
		plain := Call(c.p, c.f.Name, nil, 1000)
		p := api.Program{Funcs: slices.Concat(c.p.Funcs, []api.Func{{Name: "around", Type: c.f.Type, Body: api.Expr{Op: api.OpCall, Name: c.f.Name}}})}
		want := plain
		want.Moves++
		if got := Call(p, "around", nil, 1001); !same(got, want) {
			t.Fatalf("%s: %v, not %v", show.Program(p), got, want)
		}
	}
}

// Places, and how a program is written, count for nothing.
func TestPlacesAlone(t *testing.T) {
	for _, c := range drawCalls(t, 115, 500, 30) {
		again := programOf(t, show.Program(c.p))
		if got, want := Call(again, c.f.Name, c.args, 500), Call(c.p, c.f.Name, c.args, 500); !same(got, want) {
			t.Fatalf("%s%s %v: %v, not %v", c.text, c.f.Name, c.args, got, want)
		}
	}
}

// P11.4

func roomyValues(args []api.Value) []api.Value {
	all := slices.Clone(args)
	for i := range all {
		all[i].List = trial.Roomy(all[i].List, 99)
	}
	return trial.Roomy(all, api.Value{Type: api.TypeN, Num: 99})
}

func wholeValues(args []api.Value) []api.Value {
	all := slices.Clone(args[:cap(args)])
	for i := range all {
		all[i].List = slices.Clone(all[i].List[:cap(all[i].List)])
	}
	return all
}

func TestWhatIsHandedInStays(t *testing.T) {
	for _, c := range drawCalls(t, 116, 1000, 40) {
		p, args := trial.RoomyProgram(c.p), roomyValues(c.args)
		oldProgram, oldArgs := trial.WholeProgram(p), wholeValues(args)
		got, want := Call(p, c.f.Name, args, 300), Call(c.p, c.f.Name, c.args, 300)
		if !same(got, want) {
			t.Fatalf("%s%s %v: %v hangs on spare room, is not %v", c.text, c.f.Name, c.args, got, want)
		}
		for i := range got.Value.List[:cap(got.Value.List)] {
			got.Value.List[:cap(got.Value.List)][i] = 77
		}
		if !reflect.DeepEqual(trial.WholeProgram(p), oldProgram) || !reflect.DeepEqual(wholeValues(args), oldArgs) {
			t.Fatalf("%s%s %v: not what it was", c.text, c.f.Name, c.args)
		}
	}
}

func TestAnswersAreNewMemory(t *testing.T) {
	for _, text := range []string{
		"f(l L):L=l;", "f(l L):L=case l of nil->nil|h:t->t;", "f(l L):L=1:l;", "f(l L):L=strict x L=l in x;", "f(l L):L=case l of nil->nil|h:t->h:t;", "f(l L):L=g(l,l);g(l L,m L):L=m;",
	} {
		p := programOf(t, text)
		args := roomyValues(lineOf(t, "[1 2 3]"))
		first, second := Call(p, "f", args, 99), Call(p, "f", args, 99)
		want := slices.Clone(second.Value.List)
		for _, list := range [][]complex128{args[0].List, first.Value.List} {
			all := list[:cap(list)]
			for i := range all {
				all[i] = 55
			}
		}
		if second.Why != api.OK || !slices.Equal(second.Value.List, want) || len(want) < 2 {
			t.Errorf("%s: %v, not %v", text, second, want)
		}
		again := append(second.Value.List, 9)
		if third := Call(p, "f", lineOf(t, "[1 2 3]"), 99); !slices.Equal(third.Value.List, want) || !slices.Equal(again[:len(want)], want) {
			t.Errorf("%s: %v, not %v", text, third, want)
		}
	}
}

// What is asked hangs on nothing that was asked before.
func TestCallsAreApart(t *testing.T) {
	f, g := programOf(t, "f(x N):N=x+1;"), programOf(t, "f(x N):N=f(x);")
	for range 3 {
		expect(t, f, "f", "1", 99, api.OK, "2", 3)
		expect(t, g, "f", "1", 99, api.ErrFuel, "", 99)
		expect(t, f, "f", "true", 99, api.ErrArgs, "", 0)
	}
}

// Looks within one another may be as deep as the most allows, and parts nested as deep as the document's bound.
func TestDeep(t *testing.T) {
	for _, text := range []string{
		"f(x N):N=1+f(x);", "f(x N):N=not1(if f(x)==1 then true else false);not1(b B):N=if b then 1 else 2;", "f(x N):N=if f(x)==1 then 1 else 2;", "f(x N):N=strict y N=f(x) in y;",
		"f(x N):N=f(x+1);", "f(x N):N=g(f(x));g(x N):N=x;", "f(x N):N=let y N=f(y) in f(y);", "f(x N):N=case x:g(x) of nil->1|h:t->f(h);g(x N):L=g(x);", "f(x N):N=conj(f(x));", "f(x N):N=f(f(x));",
		"f(x N):N=case g(x) of nil->1|h:t->2;g(x N):L=case g(x) of nil->nil|h:t->t;",
	} {
		expect(t, programOf(t, text), "f", "1", 1<<20, api.ErrFuel, "", api.MaxCost)
	}
	const deep = 1<<16 - 1
	one := api.Expr{Op: api.OpNum, Num: 1}
	for _, at := range []int{0, 1} {
		for _, op := range []api.Op{api.OpAdd, api.OpMul, api.OpLet, api.OpStrict} {
			e := one
			for range deep {
				args := []api.Expr{one, one}
				args[at] = e
				e = api.Expr{Op: op, Args: args}
				if op == api.OpLet || op == api.OpStrict {
					e.Name, e.Type = "x", api.TypeN
				}
			}
			p := api.Program{Funcs: []api.Func{{Name: "f", Type: api.TypeN, Body: e}}}
			if op == api.OpLet && at == 0 {
				expect(t, p, "f", "", 99, api.OK, "1", 2)
				continue
			}
			expect(t, p, "f", "", 99999, api.ErrFuel, "", api.MaxCost)
		}
	}
}

// A call takes no more memory for having many arguments.
func TestWideCalls(t *testing.T) {
	const wide = 3000
	call := api.Expr{Op: api.OpCall, Name: "f"}
	f := api.Func{Name: "f", Type: api.TypeN}
	values := make([]api.Value, wide)
	for i := range values {
		f.Params = append(f.Params, api.Param{Name: "x" + strconv.Itoa(i), Type: api.TypeN})
		call.Args = append(call.Args, api.Expr{Op: api.OpVar, Name: "x" + strconv.Itoa((i+1)%wide)})
		values[i] = api.Value{Type: api.TypeN, Num: complex(float64(i), 0)}
	}
	f.Body = call
	if got := Call(api.Program{Funcs: []api.Func{f}}, "f", values, math.MaxInt); !same(got, api.Result{Why: api.ErrFuel, Moves: api.MaxCost}) {
		t.Error(got)
	}
	for i := 0; i < wide; i += 97 {
		f.Body = api.Expr{Op: api.OpVar, Name: "x" + strconv.Itoa(i)}
		if got := Call(api.Program{Funcs: []api.Func{f}}, "f", values, 99); !same(got, api.Result{Value: values[i], Moves: 1}) {
			t.Error(i, got)
		}
	}
}

// A list that is handed in needs no look, however long it is.
func TestLongLists(t *testing.T) {
	long := make([]complex128, 1<<21)
	for i := range long {
		long[i] = complex(float64(i), 1)
	}
	args := []api.Value{{Type: api.TypeL, List: long}}
	for _, r := range []struct {
		text string
		cost int
		want []complex128
	}{
		{"f(l L):L=l;", 1, long},
		{"f(l L):L=case l of nil->l|h:t->t;", 3, long[1:]},
		{"f(l L):L=let m L=l in strict n L=m in n;", 5, long},
		{"f(l L):L=case l of nil->l|h:t->case t of nil->t|k:t->k:h:t;", 9, append([]complex128{long[1], long[0]}, long[2:]...)},
	} {
		got := Call(programOf(t, r.text), "f", args, 99)
		if got.Why != api.OK || got.Moves != r.cost || !slices.Equal(got.Value.List, r.want) {
			t.Errorf("%s: %v, %d, %d elements", r.text, got.Why, got.Moves, len(got.Value.List))
		}
	}
	expectValues(t, programOf(t, "f(l L):N=case l of nil->0|h:t->f(t);"), args, api.ErrFuel, api.MaxCost)
}

// Of what is not sound in its shape only this is promised.
func TestOtherShapesEnd(t *testing.T) {
	for op := api.Op(-1); op <= api.OpStrict+2; op++ {
		for n := range 5 {
			e := api.Expr{Op: op, Name: "g", Tail: "x", Type: api.TypeN}
			for _, part := range []api.Op{0, api.OpNum, api.OpTrue, api.OpNil, api.OpFail} {
				e.Args = nil
				for range n {
					e.Args = append(e.Args, api.Expr{Op: part})
				}
				for kind := range api.Type(5) {
					g := api.Func{Name: "g", Params: []api.Param{{Name: "x", Type: kind}}, Type: kind, Body: e}
					f := api.Func{Name: "f", Type: kind, Body: api.Expr{Op: api.OpAdd, Args: []api.Expr{e, e}}}
					p := api.Program{Funcs: []api.Func{f, g}}
					Call(p, "f", nil, 99)
					Call(p, "g", []api.Value{{Type: kind}}, 99)
				}
			}
		}
	}
}
