// Package trial is what the tests of several layers share: drawn programs, and programs with spare room. No layer calls it.
package trial

import (
	"slices"
	"strconv"
	"strings"
)

// drawer draws a sound program's text, of few names, so that they are often bound anew.
type drawer struct {
	choose func(n int) int
	room   int // parts that may still be drawn, about
	names  []string
	funcs  []string // name, the parameters' letters, the type's letter
	env    []string // name and letter, the nearest last
}

// letters are the types' letters, at their numbers.
const letters = " NBL"

// Program draws the text of a sound program, of about so many parts a definition at most: choose draws a number that is at
// least 0 and below n, and of the same numbers the same text is made.
func Program(choose func(n int) int, room int) string {
	d := drawer{choose: choose, names: []string{"x", "y", "f0", "t1", "aa"}[:3+choose(3)]}
	for i := range 1 + choose(4) {
		kinds := ""
		for range choose(4) {
			kinds += string(d.letter())
		}
		d.funcs = append(d.funcs, []string{"f", "x", "g", "h"}[i]+strconv.Itoa(i)+" "+kinds+string(d.letter()))
	}
	text := ""
	for _, f := range d.funcs {
		d.room = choose(room)
		text += d.definition(f)
	}
	return text
}

// definition is one of the functions; its parameters have the first names, so that none stands twice.
func (d *drawer) definition(f string) string {
	name, kinds, _ := strings.Cut(f, " ")
	d.env = nil
	for i, c := range []byte(kinds[:len(kinds)-1]) {
		d.env = append(d.env, d.names[i]+" "+string(c))
	}
	params, letter := strings.Join(d.env, ", "), kinds[len(kinds)-1]
	return name + "(" + params + "): " + string(letter) + " = " + d.expr(letter) + ";\n"
}

func (d *drawer) letter() byte { return letters[1+d.choose(3)] }

func (d *drawer) one(of []string) string { return of[d.choose(len(of))] }

// forms are what may be drawn of a type: ? is a variable, & a call, let, strict and case what is said by these; in all
// others N, B and L are parts of that type, and $ is one of the same type.
func (d *drawer) forms(letter byte) []string {
	variable := []string{"?", "?", "?", "?", "?", "?"}
	if d.choose(20) == 0 {
		variable[0] = "fail " + string(letter)
	}
	if d.room <= 0 {
		return append(plain(letter), variable...)
	}
	same := []string{"&", "&", "&", "if B then $ else $", "if B then $ else $", "let", "let", "strict", "strict", "case", "case"}
	return slices.Concat(variable[:2], own(letter), own(letter), same)
}

func plain(letter byte) []string {
	switch letter {
	case 'N':
		return []string{"1", "2i", "0", "3", "16777216"}
	case 'B':
		return []string{"true", "false"}
	}
	return []string{"nil"}
}

func own(letter byte) []string {
	switch letter {
	case 'N':
		return []string{"N+N", "N-N", "N*N", "N/N", "re(N)", "im(N)", "conj(N)"}
	case 'B':
		return []string{"N==N", "N<N", "not(B)", "not(B)"}
	}
	return []string{"N:L", "N:L", "N:L", "N:L"}
}

func (d *drawer) expr(letter byte) string {
	d.room--
	switch form := d.one(d.forms(letter)); form {
	case "let", "strict":
		return d.binder(form, letter)
	case "case":
		return d.looksInto(letter)
	case "&":
		return d.call(letter)
	case "?":
		return d.variable(letter)
	default:
		return d.fill(form, letter)
	}
}

func (d *drawer) fill(form string, letter byte) string {
	if strings.HasPrefix(form, "fail") {
		return form
	}
	var text strings.Builder
	for _, c := range []byte(form) {
		switch c {
		case 'N', 'B', 'L':
			text.WriteString("(" + d.expr(c) + ")")
		case '$':
			text.WriteString("(" + d.expr(letter) + ")")
		default:
			text.WriteByte(c)
		}
	}
	return text.String()
}

// in draws while more names are bound.
func (d *drawer) in(letter byte, bound ...string) string {
	d.env = append(d.env, bound...)
	text := d.expr(letter)
	d.env = d.env[:len(d.env)-len(bound)]
	return "(" + text + ")"
}

func (d *drawer) binder(word string, letter byte) string {
	bound, of := d.one(d.names)+" ", d.letter()
	bound += string(of)
	if word == "let" {
		return "let " + bound + "=" + d.in(of, bound) + " in " + d.in(letter, bound)
	}
	return "strict " + bound + "=" + d.in(of) + " in " + d.in(letter, bound)
}

func (d *drawer) looksInto(letter byte) string {
	head, tail := d.one(d.names), d.one(d.names)
	return "case " + d.in('L') + " of nil->" + d.in(letter) + "|" + head + ":" + tail + "->" + d.in(letter, head+" N", tail+" L")
}

// variable is one of that type, if its name isn't bound anew nearer; else what stands for itself.
func (d *drawer) variable(letter byte) string {
	seen := map[string]int{}
	var fit []string
	for _, x := range slices.Backward(d.env) {
		name := x[:len(x)-2]
		if seen[name]++; seen[name] == 1 && x[len(x)-1] == letter {
			fit = append(fit, name)
		}
	}
	if len(fit) > 0 {
		return d.one(fit)
	}
	switch letter {
	case 'N':
		return "4"
	case 'B':
		return "false"
	}
	return "nil"
}

func (d *drawer) call(letter byte) string {
	for range 20 {
		name, kinds, _ := strings.Cut(d.one(d.funcs), " ")
		if kinds[len(kinds)-1] != letter {
			continue
		}
		var args []string
		for _, c := range []byte(kinds[:len(kinds)-1]) {
			args = append(args, d.expr(c))
		}
		return name + "(" + strings.Join(args, ", ") + ")"
	}
	return d.variable(letter)
}
