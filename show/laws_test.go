package show

import (
	"reflect"
	"slices"
	"strings"
	"testing"

	"fathom/api"
	"fathom/lang"
)

// bareProgram is a program with each place 0, in new memory.
func bareProgram(p api.Program) api.Program {
	var bare api.Program
	for _, f := range p.Funcs {
		g := api.Func{Name: f.Name, Type: f.Type, Body: bareExpr(f.Body)}
		for _, x := range f.Params {
			g.Params = append(g.Params, api.Param{Name: x.Name, Type: x.Type})
		}
		bare.Funcs = append(bare.Funcs, g)
	}
	return bare
}

func bareExpr(e api.Expr) api.Expr {
	var args []api.Expr
	for _, x := range e.Args {
		args = append(args, bareExpr(x))
	}
	e.Args, e.At = args, 0
	return e
}

func sameButForPlaces(p, q api.Program) bool {
	return reflect.DeepEqual(bareProgram(p), bareProgram(q))
}

// P5.2

func TestParsedAgain(t *testing.T) {
	parsed := 0
	for _, p := range drawPrograms(53, 4000, 200) {
		text := Program(p)
		if len(text) > api.MaxWide {
			continue
		}
		parsed++
		again := programOf(t, text)
		if !sameButForPlaces(again, p) {
			t.Fatalf("%q: %v, not %v", text, again, p)
		}
		if Program(again) != text {
			t.Fatalf("%q: printed again %q", text, Program(again))
		}
	}
	if parsed < 3000 {
		t.Errorf("only %d texts were short enough", parsed)
	}
}

func TestSmallOnesParsedAgain(t *testing.T) {
	for _, e := range smallExprs() {
		text := Expr(e)
		again := programOf(t, "f():N="+text+";").Funcs[0].Body
		if !reflect.DeepEqual(bareExpr(again), bareExpr(e)) || Expr(again) != text {
			t.Fatalf("%q: %v, not %v", text, again, e)
		}
	}
}

// However a program was written, its text is one.
func TestPlacesChangeNothing(t *testing.T) {
	for _, p := range drawPrograms(54, 1000, 100) {
		text := Program(p)
		if Program(bareProgram(p)) != text {
			t.Fatalf("%q: without places %q", text, Program(bareProgram(p)))
		}
		loose := "# a remark\n" + strings.ReplaceAll(text, " ", " \n\t") + " "
		if len(loose) <= api.MaxWide && Program(programOf(t, loose)) != text {
			t.Fatalf("%q: of %q %q", text, loose, Program(programOf(t, loose)))
		}
	}
	d := drawPrograms(55, 1, 2)[0]
	d.Funcs[0].Params = nil
	with := Program(d)
	d.Funcs[0].Params = []api.Param{}
	if Program(d) != with {
		t.Errorf("%q: with an empty list %q", with, Program(d))
	}
	if Expr(api.Expr{Op: api.OpCall, Name: "f"}) != Expr(api.Expr{Op: api.OpCall, Name: "f", Args: []api.Expr{}}) {
		t.Error("an empty list of arguments has another text than none")
	}
}

func TestOthersHaveOtherTexts(t *testing.T) {
	texts := map[string]api.Expr{}
	for _, e := range smallExprs() {
		text := Expr(e)
		if f, found := texts[text]; found {
			t.Fatalf("%q is the text of %v and of %v", text, e, f)
		}
		texts[text] = e
	}
	programs := map[string]api.Program{}
	for _, p := range drawPrograms(56, 20000, 6) {
		text := Program(p)
		if q, found := programs[text]; found && !sameButForPlaces(p, q) {
			t.Fatalf("%q is the text of %v and of %v", text, p, q)
		}
		programs[text] = p
	}
}

// Each thing that a program is made of, changed by itself, changes the text.
func TestOneChangeIsSeen(t *testing.T) {
	text := "f(x N,y B):N=case g(x,y) of nil->let a N=1 in a|h:t->strict b L=fail L in x;g():L=nil;"
	want := Program(programOf(t, text))
	for _, change := range []func(p *api.Program){
		func(p *api.Program) { p.Funcs = p.Funcs[:1] },
		func(p *api.Program) { slices.Reverse(p.Funcs) },
		func(p *api.Program) { p.Funcs[0].Name = "ff" },
		func(p *api.Program) { p.Funcs[0].Type = api.TypeB },
		func(p *api.Program) { p.Funcs[0].Params = p.Funcs[0].Params[:1] },
		func(p *api.Program) { slices.Reverse(p.Funcs[0].Params) },
		func(p *api.Program) { p.Funcs[0].Params[1].Name = "z" },
		func(p *api.Program) { p.Funcs[0].Params[0].Type = api.TypeL },
		func(p *api.Program) { p.Funcs[0].Body.Name = "k" },
		func(p *api.Program) { p.Funcs[0].Body.Tail = "k" },
		func(p *api.Program) { p.Funcs[0].Body.Args[0].Name = "k" },
		func(p *api.Program) { slices.Reverse(p.Funcs[0].Body.Args[0].Args) },
		func(p *api.Program) { slices.Reverse(p.Funcs[0].Body.Args) },
		func(p *api.Program) { p.Funcs[0].Body.Args[1].Op = api.OpStrict },
		func(p *api.Program) { p.Funcs[0].Body.Args[1].Name = "k" },
		func(p *api.Program) { p.Funcs[0].Body.Args[1].Type = api.TypeB },
		func(p *api.Program) { p.Funcs[0].Body.Args[1].Args[0].Num = 1i },
		func(p *api.Program) { p.Funcs[0].Body.Args[1].Args[1].Name = "k" },
		func(p *api.Program) { p.Funcs[0].Body.Args[2].Op = api.OpLet },
		func(p *api.Program) { p.Funcs[0].Body.Args[2].Args[0].Type = api.TypeN },
		func(p *api.Program) { p.Funcs[1].Body.Op = api.OpTrue },
	} {
		p := programOf(t, text)
		change(&p)
		if got := Program(p); got == want {
			t.Errorf("%v: %q as of %q", p, got, text)
		}
	}
}

// Brackets that enclose an expression by themselves can't be left out: without a pair the text is another program's, or none's.
func TestNoBracketsTooMany(t *testing.T) {
	tried := 0
	for _, p := range drawPrograms(57, 1500, 60) {
		text := Program(p)
		for _, pair := range pairs(text) {
			less := text[:pair[0]] + text[pair[0]+1:pair[1]] + text[pair[1]+1:]
			tried++
			if q, f := lang.Parse([]byte(less), wide); f == (api.Fault{}) && sameButForPlaces(p, q) {
				t.Fatalf("%q is the same program as %q", less, text)
			}
		}
	}
	if tried < 2000 {
		t.Errorf("only %d pairs were tried", tried)
	}
}

// pairs are the places of brackets that stand behind no name or word as its own.
func pairs(text string) [][2]int {
	var all [][2]int
	var open []int
	for i, c := range text {
		switch c {
		case '(':
			open = append(open, i)
		case ')':
			from := open[len(open)-1]
			open = open[:len(open)-1]
			if text[from-1] == ' ' || text[from-1] == '(' {
				all = append(all, [2]int{from, i})
			}
		}
	}
	return all
}

// P5.3

// roomy is a program whose lists have spare room, filled with what is seen if it is touched.
func roomy(p api.Program) api.Program {
	q := api.Program{Funcs: make([]api.Func, 0, len(p.Funcs)+2)}
	for _, f := range p.Funcs {
		params := append(append(make([]api.Param, 0, len(f.Params)+2), f.Params...), api.Param{Name: "spare"})
		f.Params, f.Body = params[:len(f.Params)], roomyExpr(f.Body)
		q.Funcs = append(q.Funcs, f)
	}
	all := append(q.Funcs, api.Func{Name: "spare"})
	q.Funcs = all[:len(q.Funcs)]
	return q
}

func roomyExpr(e api.Expr) api.Expr {
	args := make([]api.Expr, 0, len(e.Args)+2)
	for _, x := range e.Args {
		args = append(args, roomyExpr(x))
	}
	all := append(args, api.Expr{Op: api.OpVar, Name: "spare"})
	e.Args = all[:len(args)]
	return e
}

// whole is a program with its spare room as if it were in use, in new memory.
func whole(p api.Program) api.Program {
	var q api.Program
	for _, f := range p.Funcs[:cap(p.Funcs)] {
		f.Params, f.Body = slices.Clone(f.Params[:cap(f.Params)]), wholeExpr(f.Body)
		q.Funcs = append(q.Funcs, f)
	}
	return q
}

func wholeExpr(e api.Expr) api.Expr {
	var args []api.Expr
	for _, x := range e.Args[:cap(e.Args)] {
		args = append(args, wholeExpr(x))
	}
	e.Args = args
	return e
}

func TestWhatIsHandedInStays(t *testing.T) {
	for _, drawn := range drawPrograms(58, 500, 80) {
		p := roomy(drawn)
		before := whole(p)
		text := Program(p)
		body := Expr(p.Funcs[0].Body)
		if !reflect.DeepEqual(whole(p), before) {
			t.Fatalf("%q: %v, no longer %v", text, whole(p), before)
		}
		if text != Program(drawn) || body != Expr(drawn.Funcs[0].Body) {
			t.Fatalf("%q hangs on spare room", text)
		}
	}
}

// What is asked hangs on nothing that was asked before, and a text stays as it was told.
func TestCallsAreApart(t *testing.T) {
	p := programOf(t, "f(x N):N=g(x+1,2);")
	text, body := Program(p), Expr(p.Funcs[0].Body)
	p.Funcs[0].Name, p.Funcs[0].Body.Args[1].Num = "k", 3
	Program(p)
	Expr(api.Expr{Op: api.OpAdd})
	if text != "f(x N): N = g(x + 1, 2);\n" || body != "g(x + 1, 2)" {
		t.Errorf("%q, %q", text, body)
	}
	if got := Program(p); got != "k(x N): N = g(x + 1, 3);\n" {
		t.Errorf("%q", got)
	}
}
