package lang

import (
	"math/rand"
	"strings"
	"testing"

	"fathom/api"
)

func expectByReference(t *testing.T, text string, l api.Limits) {
	t.Helper()
	want, why := byReference(text, l)
	if got, f := Parse([]byte(text), l); f != why || !same(got, want) {
		t.Fatalf("%q, %v: %v, %v; not %v, %v", text, l, got, f, want, why)
	}
}

// part is a piece of a derivation: a word, or what a rule makes of its parts.
type part struct {
	word  string
	parts []part
}

// drawer derives by chance as long as there is room for parts, then by each kind's shortest rule.
type drawer struct {
	source *rand.Rand
	rules  map[string][][]string
	room   int
}

func (d *drawer) draw(kind string) part {
	choices := d.rules[kind]
	if choices == nil {
		return part{word: drawWord(d.source, kind)}
	}
	rule := choices[0]
	if kind == "expr" {
		rule = choices[len(choices)-1]
	}
	if d.room--; d.room > 0 {
		rule = choices[d.source.Intn(len(choices))]
	}
	p := part{word: kind}
	for _, word := range rule {
		p.parts = append(p.parts, d.draw(word))
	}
	return p
}

func drawWord(source *rand.Rand, kind string) string {
	switch kind {
	case "name":
		return []string{"x", "y", "f", "g1", "nil_", "Let"}[source.Intn(6)]
	case "number":
		return []string{"0", "7", "3i", "16777216"}[source.Intn(4)]
	case "end":
		return ""
	}
	return kind
}

// write is the words of a derivation, with brackets by that chance of a hundred around each part of it that is an expression.
func (p part) write(source *rand.Rand, chance int) []string {
	if p.parts == nil {
		return []string{p.word}
	}
	var words []string
	for _, x := range p.parts {
		words = append(words, x.write(source, chance)...)
	}
	if strings.Contains(" expr cons comp sum term unit ", " "+p.word+" ") && source.Intn(100) < chance {
		return append(append([]string{"("}, words...), ")")
	}
	return words
}

// join sets blanks or remarks between words, at least where two would become one.
func join(source *rand.Rand, words []string, dense bool) string {
	between := []string{" ", "\n", "\t", "\r", "  ", "# r (\n", " #\n"}
	text := ""
	for _, w := range words {
		if !dense || text != "" && w != "" && touch(text[len(text)-1], w[0]) {
			text += between[source.Intn(len(between))]
		}
		text += w
	}
	return text
}

func touch(a, b byte) bool {
	run := func(c byte) bool { return strings.IndexByte("(),:;=+-*/<|> \n", c) < 0 }
	return run(a) && run(b) || a == '=' && b == '=' || a == '-' && b == '>'
}

func drawProgram(source *rand.Rand) part {
	d := drawer{source: source, rules: rules(), room: source.Intn(100)}
	return d.draw("program")
}

func drawLimits(source *rand.Rand, text string) api.Limits {
	l := api.Limits{Text: len(text) - 1 + source.Intn(40), Funcs: source.Intn(6) - 1, Arity: source.Intn(6) - 1, Nest: source.Intn(8) - 1}
	if source.Intn(2) == 0 {
		l.Funcs = 99
	}
	if source.Intn(2) == 0 {
		l.Arity = 99
	}
	return l
}

// P4.1 and P4.2

func TestDrawnPrograms(t *testing.T) {
	source := rand.New(rand.NewSource(41))
	for range 1200 {
		words := drawProgram(source).write(source, source.Intn(20))
		text := join(source, words, source.Intn(2) == 0)
		if _, f := Parse([]byte(text), api.Limits{Text: len(text), Funcs: 9999, Arity: 9999, Nest: 9999}); f != (api.Fault{}) {
			t.Fatalf("%q: %v", text, f)
		}
		expectByReference(t, text, api.Limits{Text: len(text), Funcs: 9999, Arity: 9999, Nest: 9999})
		expectByReference(t, text, drawLimits(source, text))
	}
}

var everyWord = strings.Fields("x 3i B L N case conj else fail false if im in let nil not of re strict then true -> == ( ) , : ; = + - * / < |")

// damage changes one place of a program's words, or two.
func damage(source *rand.Rand, words []string) []string {
	changed := append([]string(nil), words...)
	for range 1 + source.Intn(2) {
		i, w := source.Intn(len(changed)), everyWord[source.Intn(len(everyWord))]
		switch source.Intn(5) {
		case 0:
			changed = append(changed[:i], changed[min(i+1, len(changed)-1):]...)
		case 1:
			changed = append(changed[:i], append([]string{w}, changed[i:]...)...)
		case 2:
			changed[i] = w
		case 3:
			j := source.Intn(len(changed))
			changed[i], changed[j] = changed[j], changed[i]
		case 4:
			changed = changed[:i+1]
		}
	}
	return changed
}

func TestDamagedPrograms(t *testing.T) {
	source := rand.New(rand.NewSource(42))
	for range 1200 {
		words := drawProgram(source).write(source, source.Intn(20))
		for range 3 {
			text := join(source, damage(source, words), source.Intn(2) == 0)
			expectByReference(t, text, wide)
			expectByReference(t, text, drawLimits(source, text))
		}
	}
}

// Behind each of these beginnings every word is tried, and behind those that may stand every word again.
func TestEveryWordEverywhere(t *testing.T) {
	for _, begin := range []string{
		"", "f", "f (", "f ( x", "f ( x N", "f ( x N ,", "f ( ) : N =", "f ( ) : N = x", "f ( ) : N = g (", "f ( ) : N = g ( x",
		"f ( ) : N = ( x", "f ( ) : N = x +", "f ( ) : N = x * x", "f ( ) : N = x < x", "f ( ) : N = x : x", "f ( ) : N = not", "f ( ) : N = fail",
		"f ( ) : N = let", "f ( ) : N = strict x N = x", "f ( ) : N = let x N = x in x", "f ( ) : N = if x", "f ( ) : N = if x then x",
		"f ( ) : N = if x then x else x", "f ( ) : N = case x", "f ( ) : N = case x of nil -> x", "f ( ) : N = case x of nil -> x | x",
		"f ( ) : N = case x of nil -> x | x : x -> x", "f ( ) : N = x ;",
	} {
		r := newRecogniser()
		words := strings.Fields(begin)
		for _, w := range words {
			if !r.push(called(w)) {
				t.Fatal(begin)
			}
		}
		goOn(t, r, words, 4)
	}
}

// called is what a word of everyWord, or the name f or g, is called in the grammar.
func called(word string) string {
	switch word {
	case "x", "f", "g":
		return "name"
	case "3i":
		return "number"
	}
	return word
}

func goOn(t *testing.T, r *recogniser, words []string, more int) {
	t.Helper()
	text := strings.Join(words, " ")
	want := api.Fault{}
	if !r.push("end") {
		want = api.Fault{Why: api.ErrGram, At: len(text)}
	}
	r.pop()
	expectOnly(t, text, want)
	for _, w := range everyWord {
		longer := append(words[:len(words):len(words)], w)
		at := len(text) + min(len(text), 1)
		may := r.push(called(w))
		switch {
		case !may:
			expectOnly(t, strings.Join(longer, " "), api.Fault{Why: api.ErrGram, At: at})
		case more > 1:
			goOn(t, r, longer, more-1)
		}
		r.pop()
	}
}

// expectOnly says only that a fault is the one that is wanted.
func expectOnly(t *testing.T, text string, want api.Fault) {
	t.Helper()
	if got, f := Parse([]byte(text), wide); f != want || (len(got.Funcs) == 0) != (want.Why != api.OK) {
		t.Fatalf("%q: %v, %v; not %v", text, got, f, want)
	}
}
