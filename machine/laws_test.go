package machine

import (
	"reflect"
	"runtime"
	"slices"
	"strconv"
	"strings"
	"testing"

	"fathom/api"
	"fathom/core"
	"fathom/mean"
	"fathom/trial"
	"fathom/value"
)

func (c *drawnCall) told() string {
	if c.text == "" {
		return "a core " + c.s.Name
	}
	return c.text + c.s.Name
}

// expectByWords holds drawn calls against the words; how often they ended with what, at the greatest fuel.
func expectByWords(t *testing.T, calls []drawnCall, fuels ...int) map[api.Errno]int {
	t.Helper()
	ends := map[api.Errno]int{}
	for _, c := range calls {
		for _, fuel := range fuels {
			got, want := Run(c.c, c.s.Name, c.args, fuel), byWords(c.c, c.s.Name, c.args, fuel)
			if !same(got, want) {
				t.Fatalf("%s %v, %d: %s, not %s; %v", c.told(), c.args, fuel, told(got), told(want), c.c)
			}
			if fuel == fuels[len(fuels)-1] {
				ends[got.Why]++
			}
		}
	}
	return ends
}

func expectOften(t *testing.T, ends map[api.Errno]int, often int, all ...api.Errno) {
	t.Helper()
	for _, why := range all {
		if ends[why] < often {
			t.Errorf("only %d runs ended with %v", ends[why], why)
		}
	}
	if len(ends) != len(all) {
		t.Error(ends)
	}
}

// P14.1, P14.2

func TestByWords(t *testing.T) {
	calls := drawCalls(t, 141, 2000, 40, (*drawer).values)
	ends := expectByWords(t, calls, 0, 1, 2, 3, 5, 9, 14, 30, 77, 3000)
	expectOften(t, ends, 30, api.OK, api.TrapOver, api.TrapDiv, api.TrapFail, api.TrapLoop, api.ErrFuel)
	many := slices.ContainsFunc(calls, func(c drawnCall) bool { return c.s.Slots > len(c.s.Params)+2*ready })
	if !many {
		t.Error("no function has many slots")
	}
}

func TestWorstArgumentsByWords(t *testing.T) {
	ends := expectByWords(t, drawCalls(t, 142, 2000, 40, (*drawer).worstOf), 0, 1, 2, 6, 25, 3000)
	expectOften(t, ends, 30, api.OK, api.TrapOver, api.TrapDiv, api.TrapFail, api.TrapLoop, api.TrapBottom, api.ErrFuel)
}

// Of cores that no program has, too: there things come together that don't fit, and nothing is counted then.
func TestOtherCoresByWords(t *testing.T) {
	ends := expectByWords(t, drawRaw(t, 143, 10000, 40), 0, 1, 3, 8, 20, 60, 1000)
	expectOften(t, ends, 5, api.OK, api.TrapOver, api.TrapDiv, api.TrapFail, api.TrapLoop, api.TrapBottom, api.ErrShape, api.ErrFuel)
}

// P14.3

func TestMoreFuel(t *testing.T) {
	calls := slices.Concat(drawCalls(t, 144, 150, 30, (*drawer).values), drawCalls(t, 145, 150, 30, (*drawer).worstOf), drawRaw(t, 146, 400, 30))
	const most = 150
	for _, c := range calls {
		whole := Run(c.c, c.s.Name, c.args, most)
		ended := false
		for fuel := range most {
			got := Run(c.c, c.s.Name, c.args, fuel)
			if got.Why != api.ErrFuel {
				ended = true
			}
			if ended && !same(got, whole) || !ended && (got.Moves != fuel || got.Why != api.ErrFuel || !isZero(got.Value)) {
				t.Fatalf("%s %v, %d: %s, and with more %s", c.told(), c.args, fuel, told(got), told(whole))
			}
			if whole.Why != api.ErrShape && ended != (fuel >= whole.Moves) {
				t.Fatalf("%s %v, %d: %s, and with more %s", c.told(), c.args, fuel, told(got), told(whole))
			}
		}
		if whole.Why == api.ErrFuel {
			continue
		}
		for _, fuel := range []int{most + 1, 5000, 1 << 40} {
			if got := Run(c.c, c.s.Name, c.args, fuel); !same(got, whole) {
				t.Fatalf("%s %v, %d: %s, not %s", c.told(), c.args, fuel, told(got), told(whole))
			}
		}
	}
}

func mostParams(c api.Core) int {
	most := 0
	for _, s := range c.Supers {
		most = max(most, len(s.Params))
	}
	return most
}

// Where a call means something, its run tells that, within the fuel that the cost allows; and where both tell a value, it is
// the same one.
func TestMeanings(t *testing.T) {
	ends := map[api.Errno]int{}
	faster := 0
	for _, c := range slices.Concat(drawCalls(t, 147, 3000, 40, (*drawer).values), drawCalls(t, 148, 1000, 12, (*drawer).values)) {
		meant := mean.Call(c.p, c.s.Name, c.values(), 2000)
		ends[meant.Why]++
		if meant.Why == api.ErrFuel {
			if got := Run(c.c, c.s.Name, c.args, 4000); got.Why == api.OK || got.Why == api.TrapLoop {
				faster++
			}
			continue
		}
		fuel := (16+mostParams(c.c))*meant.Moves + 4*len(meant.Value.List)
		got := Run(c.c, c.s.Name, c.args, fuel)
		if got.Why != meant.Why || meant.Why == api.OK && !value.Same(got.Value, meant.Value) {
			t.Fatalf("%s %v, %d: %s, and it means %s", c.told(), c.args, fuel, told(got), told(meant))
		}
		if got.Why == api.OK && got.Value.Type != c.s.Type {
			t.Fatalf("%s %v: %s", c.told(), c.args, told(got))
		}
	}
	expectOften(t, ends, 100, api.OK, api.TrapOver, api.TrapDiv, api.TrapFail, api.ErrFuel)
	if faster < 10 {
		t.Errorf("only %d runs ended that have no meaning within the cost", faster)
	}
}

// The bound holds where much goes into one look: wide calls, lists that are handed in, elements that are delayed.
func TestMeaningsOfWideCalls(t *testing.T) {
	var params, args, parts []string
	for i := range 60 {
		params, args, parts = append(params, "x"+strconv.Itoa(i)+" N"), append(args, strconv.Itoa(i)+"+1"), append(parts, "g(1)")
	}
	last := strings.Join(params, ",")
	for _, r := range []struct{ text, args string }{
		{"f(" + last + "):N=x59;g(y N):N=f(" + strings.Join(args, ",") + ");", "1"},
		{"f(" + last + "):L=x0:x59:nil;g(y N):L=f(" + strings.Join(args, ",") + ");", "1"},
		{"f(y N):N=y;g(y N):N=f(" + strings.Join(args, "+") + ");", "1"},
		{"g(l L):L=l;", "[" + strings.TrimSpace(strings.Repeat("7 ", 200)) + "]"},
		{"g(l L):L=case l of nil->nil|h:t->h*h:g(t);", "[" + strings.TrimSpace(strings.Repeat("3i ", 200)) + "]"},
		{"g(l L):N=case l of nil->0|h:t->h+g(t);", "[" + strings.TrimSpace(strings.Repeat("3i ", 200)) + "]"},
		{"g(x N):L=if x<200 then x*x:g(x+1) else nil;", "198"},
	} {
		p, in := programOf(t, r.text), lineOf(t, r.args)
		call := drawnCall{args: in}
		meant := mean.Call(p, "g", call.values(), api.MaxCost)
		c := flat(t, p)
		got := Run(c, "g", in, (16+mostParams(c))*meant.Moves+4*len(meant.Value.List))
		if meant.Why != api.OK || got.Why != api.OK || !value.Same(got.Value, meant.Value) {
			t.Errorf("%.40s: %.60s, and it means %.60s", r.text, told(got), told(meant))
		}
	}
}

// What is needed often is found once: a run tells what no meaning does within its cost, as that finds it again each time.
func TestFarShorter(t *testing.T) {
	for _, r := range []struct {
		text, args string
		want       complex128
	}{
		{"f(n N):N=if n<1 then 1 else g(f(n-1));g(x N):N=x+x;", "20", 1 << 20},
		{`g(l L):L=1:z(l,case l of nil->nil|h:t->t); z(a L,b L):L=case a of nil->nil|h:t->case b of nil->nil|i:u->h+i:z(t,u);
		nth(l L,n N):N=case l of nil->0|h:t->if n==0 then h else nth(t,n-1); f(n N):N=nth(let l L=0:g(l) in l,n);`, "30", 832040},
	} {
		p, args := programOf(t, r.text), lineOf(t, r.args)
		if meant := mean.Call(p, "f", []api.Value{args[0].Value}, api.MaxCost); meant.Why != api.ErrFuel {
			t.Errorf("%s means %s", r.text, told(meant))
		}
		if got := Run(flat(t, p), "f", args, 1200); got.Why != api.OK || got.Value.Num != r.want || got.Updates > got.Thunks {
			t.Errorf("%s: %s", r.text, told(got))
		}
	}
}

// P14.4

func roomyValue(v api.Value) api.Value {
	v.List = trial.Roomy(v.List, 99)
	return v
}

func roomyCode(c api.Code) api.Code {
	args, atoms := make([]api.Code, len(c.Args)), slices.Clone(c.Atoms)
	for i, x := range c.Args {
		args[i] = roomyCode(x)
	}
	for i := range atoms {
		atoms[i].Lit = roomyValue(atoms[i].Lit)
	}
	c.Args, c.Atoms, c.Lit = trial.Roomy(args, api.Code{Op: api.CodeFail, Slot: -3}), trial.Roomy(atoms, api.Atom{Slot: 77}), roomyValue(c.Lit)
	return c
}

func roomyCore(c api.Core) api.Core {
	var supers []api.Super
	for _, s := range c.Supers {
		s.Params, s.Code = trial.Roomy(s.Params, 9), roomyCode(s.Code)
		supers = append(supers, s)
	}
	return api.Core{Supers: trial.Roomy(supers, api.Super{Name: "spare"})}
}

func roomyArgs(args []api.Arg) []api.Arg {
	all := slices.Clone(args)
	for i := range all {
		all[i].Value = roomyValue(all[i].Value)
	}
	return trial.Roomy(all, api.Arg{Kind: api.ArgPoison, Hole: 88})
}

func wholeValue(v api.Value) api.Value {
	v.List = trial.Whole(v.List)
	return v
}

func wholeCode(c api.Code) api.Code {
	c.Args, c.Atoms, c.Lit = trial.Whole(c.Args), trial.Whole(c.Atoms), wholeValue(c.Lit)
	for i := range c.Args {
		c.Args[i] = wholeCode(c.Args[i])
	}
	for i := range c.Atoms {
		c.Atoms[i].Lit = wholeValue(c.Atoms[i].Lit)
	}
	return c
}

func wholeCore(c api.Core) api.Core {
	supers := trial.Whole(c.Supers)
	for i := range supers {
		supers[i].Params, supers[i].Code = trial.Whole(supers[i].Params), wholeCode(supers[i].Code)
	}
	return api.Core{Supers: supers}
}

func wholeArgs(args []api.Arg) []api.Arg {
	all := trial.Whole(args)
	for i := range all {
		all[i].Value = wholeValue(all[i].Value)
	}
	return all
}

func TestWhatIsHandedInStays(t *testing.T) {
	calls := slices.Concat(drawCalls(t, 149, 500, 40, (*drawer).values), drawCalls(t, 150, 500, 40, (*drawer).worstOf), drawRaw(t, 151, 500, 40))
	for _, c := range calls {
		in, args := roomyCore(c.c), roomyArgs(c.args)
		oldCore, oldArgs := wholeCore(in), wholeArgs(args)
		got, want := Run(in, c.s.Name, args, 300), Run(c.c, c.s.Name, c.args, 300)
		if !same(got, want) {
			t.Fatalf("%s %v: %s hangs on spare room, is not %s", c.told(), c.args, told(got), told(want))
		}
		spread := got.Value.List[:cap(got.Value.List)]
		for i := range spread {
			spread[i] = 77
		}
		if !reflect.DeepEqual(wholeCore(in), oldCore) || !reflect.DeepEqual(wholeArgs(args), oldArgs) {
			t.Fatalf("%s %v: not what it was", c.told(), c.args)
		}
	}
}

func TestAnswersAreNewMemory(t *testing.T) {
	for _, text := range []string{
		"f(l L):L=l;", "f(l L):L=case l of nil->nil|h:t->t;", "f(l L):L=1:l;", "f(l L):L=strict x L=l in x;", "f(l L):L=case l of nil->nil|h:t->h:t;", "f(l L):L=g(l,l);g(l L,m L):L=m;", "f(l L):L=4:5:nil;",
	} {
		c, args := coreOf(t, text), roomyArgs(lineOf(t, "[1 2 3]"))
		first, second := Run(c, "f", args, 99), Run(c, "f", args, 99)
		want := slices.Clone(second.Value.List)
		for _, list := range [][]complex128{args[0].Value.List, first.Value.List} {
			all := list[:cap(list)]
			for i := range all {
				all[i] = 55
			}
		}
		if second.Why != api.OK || !slices.Equal(second.Value.List, want) || len(want) < 2 {
			t.Errorf("%s: %s, not %v", text, told(second), want)
		}
		again := append(second.Value.List, 9)
		if third := Run(c, "f", lineOf(t, "[1 2 3]"), 99); !slices.Equal(third.Value.List, want) || !slices.Equal(again[:len(want)], want) {
			t.Errorf("%s: %s, not %v", text, told(third), want)
		}
	}
}

// What is told hangs on nothing that ran before.
func TestRunsAreApart(t *testing.T) {
	for range 3 {
		expectRows(t, []row{
			{"f(x N):N=x+1;", "f", "1", 99, api.OK, "2", [4]int{6, 0, 0, 0}},
			{"f(x N):N=f(x);", "f", "1", 99, api.ErrFuel, "", [4]int{99, 0, 0, 99}},
			{"f(x N):N=x+1;", "f", "true", 99, api.ErrArgs, "", [4]int{}},
			{"f():N=let x N=x in x;", "f", "", 99, api.TrapLoop, "", [4]int{3, 1, 0, 0}},
		})
	}
	c := coreOf(t, "f():L=let x N=1+1 in x:x:nil;")
	for range 3 {
		if got := told(Run(c, "f", nil, 99)); got != "[2 2] 0 16 2 2 0" {
			t.Error(got)
		}
	}
}

// A run may go as deep as the fuel allows, through everything that lies on the stack.
func TestDeepRuns(t *testing.T) {
	for _, text := range []string{
		"f(x N):N=1+f(x);", "f(x N):N=f(x)+1;", "f(x N):N=conj(f(x));", "f(x N):N=if f(x)==1 then 1 else 2;", "f(x N):N=strict y N=f(x) in y;", "f(x N):N=f(x+1);", "f(x N):N=g(f(x));g(x N):N=x;", "f(x N):N=f(f(x));",
		"f(x N):N=let y N=f(y) in f(y);", "f(x N):N=case g(x) of nil->1|h:t->2;g(x N):L=case g(x) of nil->nil|h:t->t;", "f(x N):L=x:f(x+1);", "f(x N):L=let l L=x:l in l;",
	} {
		got := Run(coreOf(t, text), "f", lineOf(t, "1"), 1<<40)
		if got.Why != api.ErrFuel || got.Moves != api.MaxFuel || !isZero(got.Value) {
			t.Errorf("%s: %.80s", text, told(got))
		}
	}
	down := coreOf(t, "f(n N,s N):N=if n==0 then s else f(n-1,s+n);")
	got := Run(down, "f", lineOf(t, "5000 0"), api.MaxFuel)
	if got.Why != api.OK || got.Value.Num != 12502500 || got.Thunks != 10000 || got.Updates != 10000 || got.Calls != 5000 {
		t.Error(told(got))
	}
}

// Parts may be nested as deep as the document's bound.
func TestDeepCodes(t *testing.T) {
	const deep = 1<<16 - 1
	one := lit(api.Value{Type: api.TypeN, Num: 1})
	for _, op := range []api.CodeOp{api.CodePrim, api.CodeLet, api.CodeStrict} {
		for at := range 2 {
			code, slots := one, 0
			for i := range deep {
				args := []api.Code{one, one}
				args[at] = code
				code = api.Code{Op: op, Prim: api.OpMul, Slot: i, Args: args}
				if op != api.CodePrim {
					slots++
				}
			}
			moves := map[api.CodeOp][2]int{api.CodePrim: {4*deep + 2, 4*deep + 2}, api.CodeLet: {3, deep + 2}, api.CodeStrict: {3*deep + 2, 3*deep + 2}}[op][at]
			thunks := map[api.CodeOp][2]int{api.CodeLet: {1, deep}}[op][at]
			got := Run(api.Core{Supers: []api.Super{{Name: "f", Type: api.TypeN, Slots: slots, Code: code}}}, "f", nil, api.MaxFuel)
			if !same(got, api.Result{Value: one.Lit, Moves: moves, Thunks: thunks}) {
				t.Errorf("%d at %d: %s, not %d moves, %d thunks", op, at, told(got), moves, thunks)
			}
		}
	}
}

// A frame takes no room for slots of parts that a call doesn't come to, however many these are.
func TestManySlotsOutOfReach(t *testing.T) {
	many := strings.TrimSuffix(strings.Repeat("k(x+1)+", 3000), "+")
	c := coreOf(t, "k(x N):N=x;f(x N):N=if x<0 then "+many+" else f(x+1);")
	var ahead, behind runtime.MemStats
	runtime.ReadMemStats(&ahead)
	if got := Run(c, "f", lineOf(t, "1"), api.MaxFuel); got.Why != api.ErrFuel || got.Moves != api.MaxFuel {
		t.Error(told(got))
	}
	runtime.ReadMemStats(&behind)
	if taken := behind.TotalAlloc - ahead.TotalAlloc; taken > 1<<29 {
		t.Errorf("%d bytes", taken)
	}
	if got := Run(c, "f", lineOf(t, "-2"), api.MaxFuel); got.Why != api.OK || got.Value.Num != -3000 || got.Thunks != 3000 || got.Updates != 3000 {
		t.Error(told(got))
	}
}

func TestWideCalls(t *testing.T) {
	const wide = 2000
	s := api.Super{Name: "f", Type: api.TypeN, Slots: wide, Code: api.Code{Op: api.CodeCall}}
	values := make([]api.Value, wide)
	for i := range wide {
		s.Params = append(s.Params, api.TypeN)
		s.Code.Atoms = append(s.Code.Atoms, api.Atom{Slot: (i + 1) % wide})
		values[i] = api.Value{Type: api.TypeN, Num: complex(float64(i), 0)}
	}
	args := valueArgs(values)
	if got := Run(api.Core{Supers: []api.Super{s}}, "f", args, 3000); !same(got, api.Result{Why: api.ErrFuel, Moves: 3000, Calls: 3000}) {
		t.Error(told(got))
	}
	for i := 0; i < wide; i += 97 {
		s.Code = api.Code{Op: api.CodeVar, Slot: i}
		if got := Run(api.Core{Supers: []api.Super{s}}, "f", args, 99); !same(got, api.Result{Value: values[i], Moves: 2}) {
			t.Error(i, told(got))
		}
	}
}

func TestLongLists(t *testing.T) {
	long := make([]complex128, api.MaxFuel/2-1)
	for i := range long {
		long[i] = complex(float64(i), 1)
	}
	c := coreOf(t, "f(l L):L=l;g(l L):N=case l of nil->0|h:t->1;")
	whole := Run(c, "f", valueArgs([]api.Value{numbers(long...)}), api.MaxFuel)
	if whole.Why != api.OK || whole.Moves != api.MaxFuel || !slices.Equal(whole.Value.List, long) {
		t.Errorf("%v %d %d", whole.Why, whole.Moves, len(whole.Value.List))
	}
	more := valueArgs([]api.Value{numbers(append(long, 1)...)})
	if got := Run(c, "f", more, api.MaxFuel); !same(got, api.Result{Why: api.ErrFuel, Moves: api.MaxFuel}) {
		t.Errorf("%v %d %d", got.Why, got.Moves, len(got.Value.List))
	}
	if got := told(Run(c, "g", more, 99)); got != "1 0 5 0 0 0" {
		t.Error(got)
	}
	last := len(long) - 1
	hole := []api.Arg{{Kind: api.ArgHole, Value: numbers(long...), Hole: last}}
	if got := Run(c, "f", hole, api.MaxFuel); !same(got, api.Result{Why: api.TrapBottom, Moves: 2 + 2*last}) {
		t.Errorf("%v %d", got.Why, got.Moves)
	}
}

// Cores that aren't right are told by layer 12 alone: wherever it says so, nothing runs.
func TestBrokenCores(t *testing.T) {
	broken := 0
	for _, c := range drawCalls(t, 152, 300, 30, (*drawer).values) {
		for at := range c.c.Supers {
			for _, spoil := range []func(*api.Super){
				func(s *api.Super) { s.Slots++ }, func(s *api.Super) { s.Slots-- }, func(s *api.Super) { s.Type = 0 }, func(s *api.Super) { s.Code.Op = 0 }, func(s *api.Super) { s.Code.Op++ }, func(s *api.Super) { s.Code.Func = -1 },
				func(s *api.Super) { s.Code.Slot = s.Slots }, func(s *api.Super) { s.Code.Args = s.Code.Args[:len(s.Code.Args)/2] }, func(s *api.Super) { s.Code.Atoms = append(s.Code.Atoms, api.Atom{}) }, func(s *api.Super) { s.Code.Prim += 8 },
				func(s *api.Super) { s.Params = append(s.Params, api.TypeN) }, func(s *api.Super) { s.Code.Lit.List = []complex128{1} },
			} {
				other := wholeCore(c.c)
				other.Supers = other.Supers[:len(c.c.Supers)]
				other.Supers[at] = c.c.Supers[at]
				spoil(&other.Supers[at])
				got := Run(other, c.s.Name, c.args, 99)
				if wrong := core.Check(other) != api.OK; wrong {
					broken++
					if !same(got, api.Result{Why: api.ErrShape}) {
						t.Fatalf("%v: %s", other, told(got))
					}
				}
			}
		}
	}
	if broken < 1000 {
		t.Error("only", broken)
	}
}
