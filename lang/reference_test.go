package lang

import (
	"slices"
	"strings"

	"fathom/api"
	"fathom/marks"
)

// What Parse is held against: which marks may stand is told by a recogniser of any grammar, which is given the document's; what is nested in
// what by a stack; what a text means by cutting it at its weakest sign.

// A line is a rule: what is made, and of what. A word that no line makes is a mark.
const grammar = `
program defs end
defs def
defs defs def
def name ( ) : type = expr ;
def name ( params ) : type = expr ;
params param
params params , param
param name type
type N
type B
type L
expr let name type = expr in expr
expr strict name type = expr in expr
expr if expr then expr else expr
expr case expr of nil -> expr | name : name -> expr
expr cons
cons comp
cons comp : cons
comp sum
comp sum == sum
comp sum < sum
sum term
sum sum + term
sum sum - term
term unit
term term * unit
term term / unit
unit number
unit true
unit false
unit nil
unit fail type
unit name
unit name ( )
unit name ( exprs )
unit not ( expr )
unit re ( expr )
unit im ( expr )
unit conj ( expr )
unit ( expr )
exprs expr
exprs exprs , expr
`

// rules are the grammar's, by what they make.
func rules() map[string][][]string {
	all := map[string][][]string{}
	for _, line := range strings.Split(strings.TrimSpace(grammar), "\n") {
		words := strings.Fields(line)
		all[words[0]] = append(all[words[0]], words[1:])
	}
	return all
}

// item is a rule of which done words have been read, from a place on.
type item struct {
	made       string
	rule, done int
	from       int
}

// recogniser has, for each place between marks, the items that fit the marks ahead of it.
type recogniser struct {
	rules map[string][][]string
	sets  [][]item
}

func newRecogniser() *recogniser {
	r := &recogniser{rules: rules()}
	r.sets = [][]item{nil}
	r.predict("program")
	r.settle()
	return r
}

func (r *recogniser) add(x item) {
	last := len(r.sets) - 1
	if !slices.Contains(r.sets[last], x) {
		r.sets[last] = append(r.sets[last], x)
	}
}

func (r *recogniser) predict(made string) {
	for i := range r.rules[made] {
		r.add(item{made: made, rule: i, from: len(r.sets) - 1})
	}
}

// wants is the word that an item goes on with, "" at its end.
func (r *recogniser) wants(x item) string {
	words := r.rules[x.made][x.rule]
	if x.done == len(words) {
		return ""
	}
	return words[x.done]
}

// settle adds what follows from the last set's items. (No rule is empty, so what has ended began in an earlier set.)
func (r *recogniser) settle() {
	last := len(r.sets) - 1
	for i := 0; i < len(r.sets[last]); i++ {
		x := r.sets[last][i]
		if word := r.wants(x); word != "" {
			r.predict(word)
			continue
		}
		for _, y := range r.sets[x.from] {
			if r.wants(y) == x.made {
				y.done++
				r.add(y)
			}
		}
	}
}

// push reads one mark more, and says whether some text goes on so.
func (r *recogniser) push(word string) bool {
	ahead := r.sets[len(r.sets)-1]
	r.sets = append(r.sets, nil)
	for _, x := range ahead {
		if r.wants(x) == word {
			x.done++
			r.add(x)
		}
	}
	r.settle()
	return len(r.sets[len(r.sets)-1]) > 0
}

func (r *recogniser) pop() { r.sets = r.sets[:len(r.sets)-1] }

// wordOf is what a mark is called in the grammar.
func wordOf(m api.Mark) string {
	switch m.Kind {
	case api.MarkName:
		return "name"
	case api.MarkNumber:
		return "number"
	case api.MarkEnd:
		return "end"
	}
	return m.Text
}

// opened is a thing that what follows stands in, and the word that it waits for; "": it goes on to where the thing around it goes on.
type opened struct {
	waits string
	nests bool
}

// nest follows what a mark opens and ends; marks are to be such as may stand.
func nest(all []opened, text string) []opened {
	switch text {
	case "(":
		return append(all, opened{waits: ")"})
	case "let", "strict":
		return append(all, opened{waits: "in", nests: true})
	case "case":
		return append(all, opened{waits: "of", nests: true})
	case "if":
		return append(all, opened{waits: "then"})
	case ",", ")", "in", "of", "|", "then", "else", ";":
		for len(all) > 0 && all[len(all)-1].waits == "" {
			all = all[:len(all)-1]
		}
	}
	if len(all) == 0 || all[len(all)-1].waits != text {
		return all
	}
	if text == ")" {
		return all[:len(all)-1]
	}
	all[len(all)-1].waits = map[string]string{"of": "|", "then": "else"}[text]
	return all
}

func nestings(all []opened) int {
	n := 0
	for _, x := range all {
		if x.nests {
			n++
		}
	}
	return n
}

// faultOf is the first fault of marks under limits, by the recogniser and the stack.
func faultOf(all []api.Mark, l api.Limits) api.Fault {
	r := newRecogniser()
	var open []opened
	funcs, params, header := 0, 0, false
	for i, m := range all {
		if !r.push(wordOf(m)) {
			return api.Fault{Why: api.ErrGram, At: m.At}
		}
		if i == 0 || all[i-1].Text == ";" {
			funcs, params, header = funcs+1, -1, true
		}
		if header && m.Kind == api.MarkName {
			params++
		}
		header = header && m.Text != ")"
		if m.Kind == api.MarkName && (funcs > max(l.Funcs, 0) || header && params > max(l.Arity, 0)) {
			return api.Fault{Why: api.ErrTooBig, At: m.At}
		}
		open = nest(open, m.Text)
		if slices.Contains([]string{"let", "strict", "case"}, m.Text) && nestings(open) > max(l.Nest, 0) {
			return api.Fault{Why: api.ErrNest, At: m.At}
		}
	}
	return api.Fault{}
}

// byReference is what Parse is to answer.
func byReference(text string, l api.Limits) (api.Program, api.Fault) {
	most := min(max(l.Text, 0), 32768)
	if len(text) > most {
		return api.Program{}, api.Fault{Why: api.ErrTooBig, At: most}
	}
	all, f := marks.Marks([]byte(text))
	if f == (api.Fault{}) {
		f = faultOf(all, l)
	}
	if f != (api.Fault{}) {
		return api.Program{}, f
	}
	return api.Program{Funcs: funcsOf(all)}, f
}

// From here on the marks are a program's, or such a part of it as is asked for.

func funcsOf(all []api.Mark) []api.Func {
	var funcs []api.Func
	for len(all) > 1 {
		end := slices.IndexFunc(all, func(m api.Mark) bool { return m.Text == ";" })
		funcs = append(funcs, funcOf(all[:end]))
		all = all[end+1:]
	}
	return funcs
}

func funcOf(all []api.Mark) api.Func {
	shut := slices.IndexFunc(all, func(m api.Mark) bool { return m.Text == ")" })
	f := api.Func{Name: all[0].Text, Type: typeOf(all[shut+2]), Body: exprOf(all[shut+4:]), At: all[0].At}
	for i := 2; i < shut; i += 3 {
		f.Params = append(f.Params, api.Param{Name: all[i].Text, Type: typeOf(all[i+1]), At: all[i].At})
	}
	return f
}

func typeOf(m api.Mark) api.Type { return api.Type(1 + strings.Index("NBL", m.Text)) }

// mate is the place of the word that belongs to the first one: as often as such a word has come, its mate has.
func mate(all []api.Mark, word string, first ...string) int {
	open := 0
	for i, m := range all {
		if slices.Contains(first, m.Text) {
			open++
		}
		if m.Text == word {
			open--
		}
		if open == 0 {
			return i
		}
	}
	panic("no " + word)
}

// apart are the places of signs that stand in no brackets.
func apart(all []api.Mark, signs ...string) []int {
	var places []int
	brackets := 0
	for i, m := range all {
		switch {
		case m.Text == "(":
			brackets++
		case m.Text == ")":
			brackets--
		case brackets == 0 && slices.Contains(signs, m.Text):
			places = append(places, i)
		}
	}
	return places
}

func exprOf(all []api.Mark) api.Expr {
	e := api.Expr{At: all[0].At}
	switch all[0].Text {
	case "let", "strict":
		in := mate(all, "in", "let", "strict")
		e.Op = map[string]api.Op{"let": api.OpLet, "strict": api.OpStrict}[all[0].Text]
		e.Name, e.Type, e.Args = all[1].Text, typeOf(all[2]), []api.Expr{exprOf(all[4:in]), exprOf(all[in+1:])}
	case "if":
		then, or := mate(all, "then", "if"), mate(all, "else", "if")
		e.Op, e.Args = api.OpIf, []api.Expr{exprOf(all[1:then]), exprOf(all[then+1 : or]), exprOf(all[or+1:])}
	case "case":
		of, bar := mate(all, "of", "case"), mate(all, "|", "case")
		e.Op, e.Name, e.Tail = api.OpCase, all[bar+1].Text, all[bar+3].Text
		e.Args = []api.Expr{exprOf(all[1:of]), exprOf(all[of+3 : bar]), exprOf(all[bar+5:])}
	default:
		return operationOf(all)
	}
	return e
}

// operationOf cuts at the weakest sign: a cons at the first one, a sum or a product at the last one.
func operationOf(all []api.Mark) api.Expr {
	ops := map[string]api.Op{
		":": api.OpCons, "==": api.OpEq, "<": api.OpLess, "+": api.OpAdd, "-": api.OpSub, "*": api.OpMul, "/": api.OpQuo,
	}
	for _, signs := range [][]string{{":"}, {"==", "<"}, {"+", "-"}, {"*", "/"}} {
		if places := apart(all, signs...); len(places) > 0 {
			at := places[len(places)-1]
			if signs[0] == ":" {
				at = places[0]
			}
			return api.Expr{Op: ops[all[at].Text], Args: []api.Expr{operationOf(all[:at]), operationOf(all[at+1:])}, At: all[at].At}
		}
	}
	return unitOf(all)
}

func unitOf(all []api.Mark) api.Expr {
	e := api.Expr{At: all[0].At}
	last := len(all) - 1
	switch first := all[0]; {
	case first.Text == "(":
		return exprOf(all[1:last])
	case first.Kind == api.MarkNumber:
		e.Op, e.Num = api.OpNum, first.Num
	case first.Text == "fail":
		e.Op, e.Type = api.OpFail, typeOf(all[1])
	case first.Kind == api.MarkWord && last == 0:
		e.Op = map[string]api.Op{"true": api.OpTrue, "false": api.OpFalse, "nil": api.OpNil}[first.Text]
	case first.Kind == api.MarkWord:
		e.Op = map[string]api.Op{"not": api.OpNot, "re": api.OpRe, "im": api.OpIm, "conj": api.OpConj}[first.Text]
		e.Args = []api.Expr{exprOf(all[2:last])}
	case last == 0:
		e.Op, e.Name = api.OpVar, first.Text
	default:
		e.Op, e.Name = api.OpCall, first.Text
		from := 2
		for _, comma := range apart(all[2:last], ",") {
			e.Args = append(e.Args, exprOf(all[from:2+comma]))
			from = 2 + comma + 1
		}
		if from < last {
			e.Args = append(e.Args, exprOf(all[from:last]))
		}
	}
	return e
}
