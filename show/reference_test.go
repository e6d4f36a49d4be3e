package show

import (
	"math/rand"
	"slices"
	"strconv"
	"strings"

	"fathom/api"
)

// What Expr and Program are held against: the document's lines as forms, filled in.

// A form's text stands as it is, but for @, the name, ^, the tail's name, !, the type's letter, $, the number, & the
// parts with commas between, and a digit: the next part, wanted at that level.
func form(op api.Op) string {
	return []string{
		"", "$", "true", "false", "nil", "fail !", "@", "@(&)", "3 + 4", "3 - 4", "4 * 5", "4 / 5", "3 == 3", "3 < 3",
		"not(0)", "re(0)", "im(0)", "conj(0)", "2 : 1", "if 0 then 0 else 0", "case 0 of nil -> 0 | @:^ -> 0",
		"let @ ! = 0 in 0", "strict @ ! = 0 in 0",
	}[op]
}

// levels has a digit an Op.
const levels = "55555555334422555510000"

// partsOf is how many parts the Op has; -1: any number.
func partsOf(op api.Op) int {
	if op == api.OpCall {
		return -1
	}
	n := 0
	for _, c := range form(op) {
		if '0' <= c && c <= '9' {
			n++
		}
	}
	return n
}

func typeLetter(t api.Type) string { return string(" NBL"[t]) }

func numberText(z complex128) string {
	if imag(z) != 0 {
		return strconv.Itoa(int(imag(z))) + "i"
	}
	return strconv.Itoa(int(real(z)))
}

// exprByForm fills in the form, in brackets where a higher level is wanted.
func exprByForm(e api.Expr, wanted int) string {
	text, next := "", 0
	for _, c := range form(e.Op) {
		switch {
		case c == '@':
			text += e.Name
		case c == '^':
			text += e.Tail
		case c == '!':
			text += typeLetter(e.Type)
		case c == '$':
			text += numberText(e.Num)
		case c == '&':
			var all []string
			for _, part := range e.Args {
				all = append(all, exprByForm(part, 0))
			}
			text += strings.Join(all, ", ")
		case '0' <= c && c <= '9':
			text += exprByForm(e.Args[next], int(c-'0'))
			next++
		default:
			text += string(c)
		}
	}
	if int(levels[e.Op]-'0') < wanted {
		return "(" + text + ")"
	}
	return text
}

func programByForm(p api.Program) string {
	text := ""
	for _, f := range p.Funcs {
		var params []string
		for _, x := range f.Params {
			params = append(params, x.Name+" "+typeLetter(x.Type))
		}
		text += f.Name + "(" + strings.Join(params, ", ") + "): " + typeLetter(f.Type) + " = " + exprByForm(f.Body, 0) + ";\n"
	}
	return text
}

// What is drawn has a place everywhere, each another one; the same each time for one source.

type drawer struct {
	source *rand.Rand
	room   int // parts that may still be drawn, about
	at     int
}

func (d *drawer) place() int {
	d.at++
	return d.at
}

func (d *drawer) name() string {
	return []string{"x", "y", "f", "g1", "nil_", "Let", "N1", "i"}[d.source.Intn(8)]
}

func (d *drawer) kind() api.Type { return api.Type(1 + d.source.Intn(3)) }

func (d *drawer) number() complex128 {
	return []complex128{0, 1, 7, 3i, 16777216, 16777216i}[d.source.Intn(6)]
}

func (d *drawer) expr() api.Expr {
	d.room--
	op := api.Op(1 + d.source.Intn(22))
	if d.room <= 0 {
		op = api.Op(1 + d.source.Intn(7))
	}
	n := partsOf(op)
	if n < 0 {
		n = d.source.Intn(max(1, min(d.room+1, 5)))
	}
	e := d.headed(op)
	for range n {
		e.Args = append(e.Args, d.expr())
	}
	return e
}

func (d *drawer) headed(op api.Op) api.Expr {
	return shaped(api.Expr{Op: op, Name: d.name(), Tail: d.name(), Type: d.kind(), Num: d.number(), At: d.place()})
}

// shaped leaves of an expression what its Op has.
func shaped(e api.Expr) api.Expr {
	shape := form(e.Op)
	if !strings.Contains(shape, "@") {
		e.Name = ""
	}
	if !strings.Contains(shape, "^") {
		e.Tail = ""
	}
	if !strings.Contains(shape, "!") {
		e.Type = 0
	}
	if !strings.Contains(shape, "$") {
		e.Num = 0
	}
	return e
}

func (d *drawer) program() api.Program {
	var p api.Program
	for range 1 + d.source.Intn(4) {
		f := api.Func{Name: d.name(), Type: d.kind(), At: d.place()}
		for range d.source.Intn(4) {
			f.Params = append(f.Params, api.Param{Name: d.name(), Type: d.kind(), At: d.place()})
		}
		f.Body = d.expr()
		p.Funcs = append(p.Funcs, f)
	}
	return p
}

func drawPrograms(seed int64, n, room int) []api.Program {
	source := rand.New(rand.NewSource(seed))
	var all []api.Program
	for range n {
		d := drawer{source: source, room: source.Intn(room)}
		all = append(all, d.program())
	}
	return all
}

// smallExprs are all Ops with all Ops as parts, and calls of none to three parts, all of the same names, types and numbers.
func smallExprs() []api.Expr {
	var ones, all []api.Expr
	for op := api.OpNum; op <= api.OpStrict; op++ {
		ones = append(ones, small(op, slices.Repeat([]api.Expr{small(api.OpVar, nil)}, max(partsOf(op), 0))))
	}
	for op := api.OpNum; op <= api.OpStrict; op++ {
		least, most := partsOf(op), partsOf(op)
		if op == api.OpCall {
			least, most = 0, 3
		}
		for n := least; n <= most; n++ {
			for _, parts := range rowsOf(ones, n) {
				all = append(all, small(op, parts))
			}
		}
	}
	return all
}

func small(op api.Op, parts []api.Expr) api.Expr {
	e := shaped(api.Expr{Op: op, Name: "x", Tail: "y", Type: api.TypeB, Num: 1})
	e.Args = parts
	return e
}

// rowsOf are all rows of n of these.
func rowsOf(ones []api.Expr, n int) [][]api.Expr {
	if n == 0 {
		return [][]api.Expr{nil}
	}
	var all [][]api.Expr
	for _, row := range rowsOf(ones, n-1) {
		for _, e := range ones {
			all = append(all, append(append([]api.Expr(nil), row...), e))
		}
	}
	return all
}
