package graph

import (
	"math"
	"math/rand"
	"slices"
	"strconv"
	"strings"
	"testing"

	"fathom/api"
	"fathom/types"
)

// P8.1

// expectShape expects that all four calls answer ErrShape, whatever number they are asked.
func expectShape(t *testing.T, p api.Program) {
	t.Helper()
	if got, e := Calls(p); e != api.ErrShape || len(got) != 0 {
		t.Errorf("%v: calls %v, %v", p, got, e)
	}
	if got, e := Groups(p); e != api.ErrShape || len(got) != 0 {
		t.Errorf("%v: groups %v, %v", p, got, e)
	}
	for _, i := range []int{0, len(p.Funcs) - 1, -1, len(p.Funcs), math.MinInt, math.MaxInt} {
		if got, e := Reach(p, i); e != api.ErrShape || len(got) != 0 {
			t.Errorf("%v: reach of %d %v, %v", p, i, got, e)
		}
		if got, e := Again(p, i); e != api.ErrShape || got {
			t.Errorf("%v: again of %d %v, %v", p, i, got, e)
		}
	}
}

func TestShape(t *testing.T) {
	for _, text := range []string{
		"f():N=g();", "f():N=1;f():N=1;", "f():N=f();g():N=f();f():N=g();", "f(x N,x N):N=1;", "f():N=x;", "f():N=f;", "f():N=f(1);", "f(x N):N=f();", "f(x N):N=f(x,x);",
		"f():N=1;g():N=2;h():N=f()+g()+h()+k();", "f():N=let g N=1 in g();", "f():N=strict x N=x in x;", "f():N=F();", "f():N=1;g():N=if true then f() else let x N=1 in y;",
	} {
		p := programOf(t, text)
		expectShape(t, p)
		// A fault whose place is 0 is one, too.
		p.Funcs = slices.Clone(p.Funcs)
		p.Funcs = append(p.Funcs, api.Func{Name: p.Funcs[0].Name, Type: api.TypeN, Body: api.Expr{Op: api.OpTrue}})
		expectShape(t, p)
	}
}

// No more is asked of a program than what layer 6 finds: one whose types don't fit is taken.
func TestTypesCountForNothing(t *testing.T) {
	p := programOf(t, "f(x B):N=g(1)+true;g(y L):N=nil;h():L=f(h());")
	if types.Check(p).Why != api.ErrType {
		t.Fatal(types.Check(p))
	}
	expectByWords(t, p)
}

func TestRange(t *testing.T) {
	for n := range 4 {
		p := calling(make([][]int, n))
		for _, i := range []int{-1, n, n + 1, -n - 1, math.MinInt, math.MaxInt} {
			if got, e := Reach(p, i); e != api.ErrRange || len(got) != 0 {
				t.Errorf("reach of %d of %d: %v, %v", i, n, got, e)
			}
			if got, e := Again(p, i); e != api.ErrRange || got {
				t.Errorf("again of %d of %d: %v, %v", i, n, got, e)
			}
		}
		for i := range n {
			if got, e := Reach(p, i); e != api.OK || !slices.Equal(got, []int{i}) {
				t.Errorf("reach of %d of %d: %v, %v", i, n, got, e)
			}
		}
	}
}

func TestNoFunction(t *testing.T) {
	for _, p := range []api.Program{{}, {Funcs: []api.Func{}}} {
		if got, e := Calls(p); e != api.OK || len(got) != 0 {
			t.Errorf("calls %v, %v", got, e)
		}
		if got, e := Groups(p); e != api.OK || len(got) != 0 {
			t.Errorf("groups %v, %v", got, e)
		}
	}
}

// P8.2, P8.3

func TestExamples(t *testing.T) {
	for _, r := range []struct{ calls, want, groups string }{
		{"1 2;2;", "1 2;2;", "2;1;0"},
		{"1;0;2 0;", "1;0;0 2;", "0 1;2;3"},
		{";0;", ";0;", "0;1;2"},
		{"2;;3;2", "2;;3;2", "1;2 3;0"},
	} {
		expectAnswers(t, calling(numbersIn(t, r.calls)), r.want, r.groups)
	}
	p := calling(numbersIn(t, "1;0;2 0;"))
	for i, want := range []string{"0 1", "0 1", "0 1 2", "3"} {
		if got, e := Reach(p, i); e != api.OK || told([][]int{got}) != want {
			t.Errorf("reach of %d: %v, %v", i, got, e)
		}
		if got, e := Again(p, i); e != api.OK || got != (i < 3) {
			t.Errorf("again of %d: %v, %v", i, got, e)
		}
	}
	for _, i := range []int{4, -1} {
		if got, e := Reach(p, i); e != api.ErrRange || len(got) != 0 {
			t.Errorf("reach of %d: %v, %v", i, got, e)
		}
	}
	expectShape(t, programOf(t, "f():N=g();"))
}

func expectAnswers(t *testing.T, p api.Program, calls, groups string) {
	t.Helper()
	if got, e := Calls(p); e != api.OK || told(got) != calls {
		t.Errorf("calls %v, %v; not %s", got, e, calls)
	}
	if got, e := Groups(p); e != api.OK || told(got) != groups {
		t.Errorf("groups %v, %v; not %s", got, e, groups)
	}
}

func TestGroups(t *testing.T) {
	for _, r := range [][2]string{
		{"", "0"}, {"0", "0"}, {";", "0;1"}, {"1;", "1;0"}, {"1;0", "0 1"}, {"0 1;1", "1;0"},
		{"1;2;0", "0 1 2"}, {"2;0;1", "0 1 2"}, {"1;2;", "2;1;0"}, {"1;2;1", "1 2;0"}, {"1;0 2;", "2;0 1"}, {"2;2;0 1", "0 1 2"},
		// Those that lean on none come by their least numbers, not in the order in which a walk leaves them.
		{"3;;;", "1;2;3;0"}, {"2;3;;", "2;0;3;1"}, {"3;2;;", "2;1;3;0"}, {"4;4;1;2;", "4;0;1;2;3"}, {"5;5;5;;4;", "3;4;5;0;1;2"}, {"1 4;2;3;;", "3;2;1;4;0"},
		// A group that others wait for comes as soon as its own number is the least.
		{"5;4;3;;;", "3;2;4;1;5;0"}, {"4;;1;0;5;4", "1;2;4 5;0;3"}, {"3 2;;5;0;2;", "1;5;2;0 3;4"}, {"3;;1;0", "0 3;1;2"}, {"2;3;0 5;1;;4", "1 3;4;5;0 2"},
		// Two ways to one group, and calls back to one that was entered long ago.
		{"1 2;3;3;", "3;1;2;0"}, {"1;2 4;3;1;5;4 0", "0 1 2 3 4 5"}, {"1;2 4;3;1;5;4", "4 5;1 2 3;0"}, {"1 3;2;0;4;3", "3 4;0 1 2"}, {"1;2;3 0;4;2;0", "0 1 2 3 4;5"},
		{"1 2 3;2 3;3;", "3;2;1;0"}, {"1 2 3;0 2 3;0 1 3;0 1 2", "0 1 2 3"}, {"2;3;4;5;0;1", "0 2 4;1 3 5"}, {"2 1;3;4;5;0;1", "1 3 5;0 2 4"},
		// A call of a group that is already there is none of the group that is open.
		{"1 2;;1 0", "1;0 2"}, {"1;3 2;;2 0;", "2;0 1 3;4"}, {"2;0;1 3;4;", "4;3;0 1 2"}, {"3;0;1;2 4;5;4", "4 5;0 1 2 3"},
	} {
		expectAnswers(t, calling(numbersIn(t, r[0])), sortedCalls(t, r[0]), r[1])
	}
}

func sortedCalls(t *testing.T, text string) string {
	t.Helper()
	lists := numbersIn(t, text)
	for _, list := range lists {
		slices.Sort(list)
	}
	return told(lists)
}

// A call counts in whichever part of whichever expression it stands.
func TestCallsAtEachPlace(t *testing.T) {
	for _, form := range []string{
		"%", "1+%", "%+1", "1-%", "%-1", "1*%", "%*1", "1/%", "%/1", "1==%", "%==1", "1<%", "%<1", "1:%", "%:1", "not(%)", "re(%)", "im(%)", "conj(%)",
		"if % then 1 else 2", "if 1 then % else 2", "if 1 then 2 else %", "case % of nil->1|h:t->2", "case 1 of nil->%|h:t->2", "case 1 of nil->1|h:t->%",
		"let x N=% in 1", "let x N=1 in %", "strict x N=% in 1", "strict x N=1 in %", "let g N=% in g", "let g N=g in %", "strict g N=1 in %", "case 1 of nil->g|g:h->%+g",
		"case 1 of nil->1|h:g->%", "let f N=(let g N=1 in %) in 1", "(%)*2", "re(im(if 1 then (1:%) else nil))",
	} {
		text := "f(g N):N=" + strings.Replace(form, "%", "g(1)", 1) + ";g(x N):N=1;h(x N,y N):N=2;"
		expectAnswers(t, programOf(t, text), "1;;", "1;0;2")
		for _, r := range [][2]string{{"g(1),2", "1 2"}, {"1,g(2)", "1 2"}, {"g(1),g(2)", "1 2"}, {"1,2", "2"}} {
			text := "f(g N):N=" + strings.Replace(form, "%", "h("+r[0]+")", 1) + ";g(x N):N=1;h(x N,y N):N=2;"
			expectAnswers(t, programOf(t, text), r[1]+";;", "1;2;0")
		}
	}
}

// Names that aren't called make no call: a variable of a function's name, a name that is bound, a parameter.
func TestNoCalls(t *testing.T) {
	expectAnswers(t, programOf(t, "f(g N):N=g+g;g(f N):N=f;"), ";", "0;1")
	expectAnswers(t, programOf(t, "f():N=let g N=g in g;g():N=strict f N=1 in f;"), ";", "0;1")
	expectAnswers(t, programOf(t, "f():N=case nil of nil->1|g:h->g;g():N=case nil of nil->1|h:f->f;h():N=3;"), ";;", "0;1;2")
	expectAnswers(t, programOf(t, "f(f N):N=f;"), "", "0")
	expectAnswers(t, programOf(t, "f(f N):N=f(f);"), "0", "0")
	// Names are told by all of their bytes.
	expectAnswers(t, programOf(t, "f():N=F()+ff();F():N=f_();ff():N=F();f_():N=f1();f1():N=1;"), "1 2;3;1;4;", "4;3;1;2;0")
}

// Calls of one function stand there once, however many there are.
func TestCallsOnce(t *testing.T) {
	text := "f(x N):N=g(g(f(f(g(x)))))+h()+g(1)+h();h():N=g(1)+g(2);g(x N):N=g(x);"
	expectAnswers(t, programOf(t, text), "0 1 2;2;2", "2;1;0")
	calls := numbersIn(t, "2 1 2 0 1 2 2;2 0 2 0;")
	for range 6 {
		calls[0] = append(calls[0], calls[0]...)
	}
	expectAnswers(t, calling(calls), "0 1 2;0 2;", "2;0 1")
}

// Places and types count for nothing, nor does the order in which definitions stand in their text.
func TestOrderIsTheProgramsOwn(t *testing.T) {
	p := programOf(t, "f():N=g()+h();g():N=h();h():N=1;k():N=f();")
	slices.Reverse(p.Funcs)
	expectAnswers(t, p, "3;;1;1 2", "1;2;3;0")
}

// All programs of at most 3 functions, and all of 4 in which none calls itself, by which of them call which.
func TestAllSmallPrograms(t *testing.T) {
	for n := range 4 {
		for bits := range 1 << (n * n) {
			expectByWords(t, calling(callsOfBits(n, bits, true)))
		}
	}
	for bits := range 1 << 12 {
		expectByWords(t, calling(callsOfBits(4, bits, false)))
	}
}

// callsOfBits takes a bit for each two functions, or each two that aren't one.
func callsOfBits(n, bits int, own bool) [][]int {
	calls := make([][]int, n)
	for i := range n {
		for j := range n {
			if i == j && !own {
				continue
			}
			if bits&1 == 1 {
				calls[i] = append(calls[i], j)
			}
			bits >>= 1
		}
	}
	return calls
}

// Drawn programs, with texts of all kinds.
func TestDrawn(t *testing.T) {
	source := rand.New(rand.NewSource(81))
	d := drawer{source: source}
	several, again := 0, 0
	for k := range 4000 {
		n := 1 + source.Intn(9)
		calls := drawCalls(source, n, []int{3, 8, 15, 25, 60}[k%5])
		p := programOf(t, d.program(calls))
		for _, called := range calls {
			slices.Sort(called)
		}
		expectByWords(t, p)
		if got, _ := Calls(p); told(got) != told(compacted(calls)) {
			t.Fatalf("%v: %v, not %v", p, got, calls)
		}
		groups, _ := Groups(p)
		if len(groups) > 1 && len(groups) < n {
			several++
		}
		if is, _ := Again(p, 0); is {
			again++
		}
	}
	if several < 500 || again < 1000 || again > 3000 {
		t.Errorf("%d with several groups, %d that come again", several, again)
	}
}

func compacted(lists [][]int) [][]int {
	var all [][]int
	for _, list := range lists {
		all = append(all, slices.Compact(slices.Clone(list)))
	}
	return all
}

// Drawn programs of more functions.
func TestDrawnOfMany(t *testing.T) {
	source := rand.New(rand.NewSource(82))
	for k := range 400 {
		expectByWords(t, calling(drawCalls(source, 10+source.Intn(30), 1+k%8)))
	}
}

// row is lists of n functions' calls by a rule.
func row(n int, rule func(i int) []int) [][]int {
	calls := make([][]int, n)
	for i := range calls {
		calls[i] = rule(i)
	}
	return calls
}

func upTo(n int) []int {
	var all []int
	for i := range n {
		all = append(all, i)
	}
	return all
}

func apart(numbers []int) [][]int {
	var all [][]int
	for _, i := range numbers {
		all = append(all, []int{i})
	}
	return all
}

// Rows of very many functions, which a walk goes along to their ends: each answer takes time that grows with their number.
func TestVeryMany(t *testing.T) {
	const many = 1 << 16
	all, down := upTo(many), upTo(many)
	slices.Reverse(down)
	var pairs [][]int
	for i := 0; i < many; i += 2 {
		pairs = append(pairs, []int{i, i + 1})
	}
	for _, r := range []struct {
		name   string
		rule   func(i int) []int
		groups [][]int
		reach  int // of function 0
		again  bool
	}{
		{"each the next", func(i int) []int { return all[min(i+1, many):min(i+2, many)] }, apart(down), many, false},
		{"each the one ahead", func(i int) []int { return all[max(i-1, 0):i] }, apart(all), 1, false},
		{"each the next, the last the first", func(i int) []int { return []int{(i + 1) % many} }, [][]int{all}, many, true},
		{"each the one ahead, the first the last", func(i int) []int { return []int{(i + many - 1) % many} }, [][]int{all}, many, true},
		{"each the next and the one ahead", func(i int) []int { return []int{max(i-1, 0), min(i+1, many-1)} }, [][]int{all}, many, true},
		{"each the next and itself", func(i int) []int { return []int{i, min(i+1, many-1)} }, apart(down), many, true},
		{"all the first", func(i int) []int { return []int{0} }, apart(all), 1, true},
		{"all the first, it all", func(i int) []int { return [][]int{{0}, all}[max(0, 1-i)] }, [][]int{all}, many, true},
		{"pairs", func(i int) []int { return []int{i ^ 1} }, pairs, 2, true},
		{"pairs, each the one ahead", func(i int) []int { return []int{i ^ 1, max(i-2, 0)} }, pairs, 2, true},
		{"none", func(i int) []int { return nil }, apart(all), 1, false},
	} {
		p := calling(row(many, r.rule))
		if got, e := Groups(p); e != api.OK || !slices.EqualFunc(got, r.groups, slices.Equal) {
			t.Errorf("%s: %d groups, %v", r.name, len(got), e)
		}
		if got, e := Reach(p, 0); e != api.OK || !slices.Equal(got, all[:r.reach]) {
			t.Errorf("%s: %d reached, %v", r.name, len(got), e)
		}
		if got, e := Again(p, 0); e != api.OK || got != r.again {
			t.Errorf("%s: %v, %v", r.name, got, e)
		}
	}
}

// Functions each of which calls all.
func TestAllCallAll(t *testing.T) {
	all := upTo(400)
	p := calling(row(len(all), func(int) []int { return all }))
	expectAnswers(t, p, told(slices.Repeat([][]int{all}, len(all))), told([][]int{all}))
	p = calling(row(len(all), func(i int) []int { return all[:i] }))
	expectAnswers(t, p, told(row(len(all), func(i int) []int { return all[:i] })), told(apart(all)))
}

// Calls within calls, and parts within parts, 2^16 deep.
func TestDeepBodies(t *testing.T) {
	const deep = 1<<16 - 1
	for _, op := range []api.Op{api.OpCall, api.OpNot, api.OpAdd, api.OpLet} {
		body := api.Expr{Op: api.OpCall, Name: "h"}
		for i := range deep {
			outer := api.Expr{Op: op, Args: []api.Expr{body}}
			switch op {
			case api.OpCall:
				outer.Name = []string{"f", "g"}[i&1]
			case api.OpAdd:
				outer.Args = []api.Expr{body, {Op: api.OpCall, Name: "g", Args: []api.Expr{{Op: api.OpNil}}}}
			case api.OpLet:
				outer.Name, outer.Type, outer.Args = "g"+strconv.Itoa(i), api.TypeN, []api.Expr{{Op: api.OpTrue}, body}
			}
			body = outer
		}
		x := []api.Param{{Name: "x", Type: api.TypeN}}
		p := api.Program{Funcs: []api.Func{{Name: "f", Params: x, Body: body, Type: api.TypeN}, {Name: "g", Params: x, Body: api.Expr{Op: api.OpNil}, Type: api.TypeL}, {Name: "h", Body: api.Expr{Op: api.OpTrue}, Type: api.TypeB}}}
		want := map[api.Op]string{api.OpCall: "0 1 2;;", api.OpNot: "2;;", api.OpAdd: "1 2;;", api.OpLet: "2;;"}[op]
		expectAnswers(t, p, want, "1;2;0")
	}
}
