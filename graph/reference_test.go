package graph

import (
	"math/rand"
	"slices"
	"strconv"
	"strings"
	"testing"

	"fathom/api"
	"fathom/lang"
)

// What the calls are held against: the document's words, asked of each two functions.

func parts(e api.Expr) []api.Expr {
	all := []api.Expr{e}
	for _, x := range e.Args {
		all = append(all, parts(x)...)
	}
	return all
}

// relation says of each two functions whether something is so of them.
type relation [][]bool

func newRelation(n int) relation {
	r := make(relation, n)
	for i := range r {
		r[i] = make([]bool, n)
	}
	return r
}

func callsByWords(p api.Program) relation {
	r := newRelation(len(p.Funcs))
	for i, f := range p.Funcs {
		for j, g := range p.Funcs {
			r[i][j] = slices.ContainsFunc(parts(f.Body), func(e api.Expr) bool { return e.Op == api.OpCall && e.Name == g.Name })
		}
	}
	return r
}

// reachByWords is the least relation in which each is with itself, and with what is so of one that it calls.
func (calls relation) reachByWords() relation {
	r := newRelation(len(calls))
	for i := range r {
		r[i][i] = true
	}
	for changed := true; changed; {
		changed = false
		for i := range r {
			for j := range r {
				for k := range r {
					if calls[i][k] && r[k][j] && !r[i][j] {
						r[i][j], changed = true, true
					}
				}
			}
		}
	}
	return r
}

func (r relation) row(i int) []int {
	var all []int
	for j, is := range r[i] {
		if is {
			all = append(all, j)
		}
	}
	return all
}

func (r relation) rows() [][]int {
	var all [][]int
	for i := range r {
		all = append(all, r.row(i))
	}
	return all
}

func (calls relation) againByWords(reach relation, i int) bool {
	return slices.ContainsFunc(calls.row(i), func(j int) bool { return reach[j][i] })
}

// groupsByWords is the groups by the least number in each, then taken one by one as P8.3 says.
func (calls relation) groupsByWords(reach relation) [][]int {
	var left [][]int
	for i := range reach {
		var group []int
		for j := range reach {
			if reach[i][j] && reach[j][i] {
				group = append(group, j)
			}
		}
		if group[0] == i {
			left = append(left, group)
		}
	}
	var order [][]int
	for len(left) > 0 {
		k := slices.IndexFunc(left, func(group []int) bool { return !calls.leansOnAny(group, left) })
		order = append(order, left[k])
		left = slices.Delete(left, k, k+1)
	}
	return order
}

func (calls relation) leansOnAny(group []int, others [][]int) bool {
	for _, other := range others {
		if other[0] == group[0] {
			continue
		}
		for _, i := range group {
			for _, j := range other {
				if calls[i][j] {
					return true
				}
			}
		}
	}
	return false
}

// told is lists with blanks between numbers and semicolons between lists.
func told(lists [][]int) string {
	var all []string
	for _, list := range lists {
		var numbers []string
		for _, n := range list {
			numbers = append(numbers, strconv.Itoa(n))
		}
		all = append(all, strings.Join(numbers, " "))
	}
	return strings.Join(all, ";")
}

// expectByWords holds all that the package answers of a program against the document's words.
func expectByWords(t *testing.T, p api.Program) {
	t.Helper()
	called := callsByWords(p)
	reach := called.reachByWords()
	if got, e := Calls(p); e != api.OK || told(got) != told(called.rows()) || len(got) != len(p.Funcs) {
		t.Fatalf("%v: calls %v, %v; not %v", p, got, e, called.rows())
	}
	if got, e := Groups(p); e != api.OK || told(got) != told(called.groupsByWords(reach)) {
		t.Fatalf("%v: groups %v, %v; not %v", called.rows(), got, e, called.groupsByWords(reach))
	}
	for i := range p.Funcs {
		if got, e := Reach(p, i); e != api.OK || !slices.Equal(got, reach.row(i)) {
			t.Fatalf("%v: reach of %d %v, %v; not %v", called.rows(), i, got, e, reach.row(i))
		}
		if got, e := Again(p, i); e != api.OK || got != called.againByWords(reach, i) {
			t.Fatalf("%v: again of %d %v, %v", called.rows(), i, got, e)
		}
	}
}

var wide = api.Limits{Text: api.MaxWide, Funcs: 1 << 15, Arity: 1 << 15, Nest: 1 << 15}

func programOf(t *testing.T, text string) api.Program {
	t.Helper()
	p, f := lang.Parse([]byte(text), wide)
	if f != (api.Fault{}) {
		t.Fatalf("%.300q: %v", text, f)
	}
	return p
}

// calling is a program of functions f0, f1, .. that call these.
func calling(calls [][]int) api.Program {
	var p api.Program
	for i, called := range calls {
		body := api.Expr{Op: api.OpNum, Num: 1}
		for _, j := range called {
			call := api.Expr{Op: api.OpCall, Name: "f" + strconv.Itoa(j)}
			body = api.Expr{Op: api.OpAdd, Args: []api.Expr{body, call}}
		}
		p.Funcs = append(p.Funcs, api.Func{Name: "f" + strconv.Itoa(i), Type: api.TypeN, Body: body})
	}
	return p
}

// numbersIn is lists as told tells them.
func numbersIn(t *testing.T, text string) [][]int {
	t.Helper()
	var lists [][]int
	for _, list := range strings.Split(text, ";") {
		var numbers []int
		for _, field := range strings.Fields(list) {
			n, err := strconv.Atoi(field)
			if err != nil {
				t.Fatal(err)
			}
			numbers = append(numbers, n)
		}
		lists = append(lists, numbers)
	}
	return lists
}

// drawer draws texts of bodies with calls at all kinds of places; the names that are bound are often functions', too. The
// same each time for one source.
type drawer struct {
	source *rand.Rand
	names  []string // the functions'
	arity  []int
	bound  []string
}

func (d *drawer) of(list ...string) string { return list[d.source.Intn(len(list))] }

// deal parts a list into n.
func (d *drawer) deal(called []int, n int) [][]int {
	dealt := make([][]int, n)
	for _, j := range called {
		k := d.source.Intn(n)
		dealt[k] = append(dealt[k], j)
	}
	return dealt
}

// expr is an expression in which just these are called.
func (d *drawer) expr(called []int) string {
	switch {
	case len(called) == 0 && d.source.Intn(5) > 0:
		return d.of(append([]string{"1", "nil", "true", "fail L"}, d.bound...)...)
	case len(called) > 0 && d.source.Intn(3) == 0:
		return d.call(called)
	}
	switch d.source.Intn(4) {
	case 0:
		return d.binder(called)
	case 1:
		return d.looksInto(called)
	}
	form := d.of("%+%", "%-%", "%*%", "%/%", "%==%", "%<%", "%:%", "not%", "re%", "im%", "conj%", "if % then % else %")
	dealt := d.deal(called, strings.Count(form, "%"))
	for _, some := range dealt {
		form = strings.Replace(form, "%", "("+d.expr(some)+")", 1)
	}
	return form
}

// call is one of the first of these, with the others in its arguments, or behind it, if it has none.
func (d *drawer) call(called []int) string {
	i, others := called[0], called[1:]
	n := d.arity[i]
	if n == 0 && len(others) > 0 {
		return d.names[i] + "():(" + d.expr(others) + ")"
	}
	var args []string
	for _, some := range d.deal(others, n) {
		args = append(args, d.expr(some))
	}
	return d.names[i] + "(" + strings.Join(args, ",") + ")"
}

// within is an expression in which more names are bound.
func (d *drawer) within(called []int, bound ...string) string {
	d.bound = append(d.bound, bound...)
	text := d.expr(called)
	d.bound = d.bound[:len(d.bound)-len(bound)]
	return "(" + text + ")"
}

func (d *drawer) binder(called []int) string {
	name, dealt := d.of(append([]string{"x", "y"}, d.names...)...), d.deal(called, 2)
	if d.source.Intn(2) == 0 {
		return "let " + name + " N=" + d.within(dealt[0], name) + " in " + d.within(dealt[1], name)
	}
	return "strict " + name + " L=" + d.within(dealt[0]) + " in " + d.within(dealt[1], name)
}

func (d *drawer) looksInto(called []int) string {
	head, tail, dealt := d.of(append([]string{"h", "y"}, d.names...)...), d.of(append([]string{"t", "y"}, d.names...)...), d.deal(called, 3)
	return "case " + d.within(dealt[0]) + " of nil->" + d.within(dealt[1]) + "|" + head + ":" + tail + "->" + d.within(dealt[2], head, tail)
}

// program is definitions that call these, each some times.
func (d *drawer) program(calls [][]int) string {
	d.names, d.arity = nil, nil
	for i := range calls {
		d.names = append(d.names, d.of("f", "F", "g_", "t")+strconv.Itoa(i))
		d.arity = append(d.arity, d.source.Intn(4))
	}
	text := ""
	for i, called := range calls {
		d.bound = nil
		var params []string
		for k := range d.arity[i] {
			name := []string{"x", d.names[0], d.names[len(d.names)-1] + "a"}[k]
			d.bound = append(d.bound, name)
			params = append(params, name+" N")
		}
		text += d.names[i] + "(" + strings.Join(params, ",") + "):" + d.of("N", "B", "L") + "=" + d.expr(called) + ";\n"
	}
	return text
}

// drawCalls are lists of n functions' calls, about so many of a hundred of those that there may be, in any order and some of
// them twice.
func drawCalls(source *rand.Rand, n, dense int) [][]int {
	calls := make([][]int, n)
	for i := range calls {
		for _, j := range source.Perm(n) {
			for source.Intn(100) < dense {
				calls[i] = append(calls[i], j)
				if source.Intn(3) > 0 {
					break
				}
			}
		}
	}
	return calls
}
