package marks

import (
	"math"
	"math/rand"
	"regexp"
	"slices"
	"strconv"
	"strings"
	"testing"

	"fathom/api"
)

// same also tells -0 from +0.
func same(a, b api.Mark) bool {
	return a == b && !math.Signbit(real(a.Num)) && !math.Signbit(imag(a.Num))
}

func word(text string, at int) api.Mark { return api.Mark{Kind: api.MarkWord, Text: text, At: at} }

func name(text string, at int) api.Mark { return api.Mark{Kind: api.MarkName, Text: text, At: at} }

func sign(text string, at int) api.Mark { return api.Mark{Kind: api.MarkSign, Text: text, At: at} }

func number(text string, num complex128, at int) api.Mark {
	return api.Mark{Kind: api.MarkNumber, Text: text, Num: num, At: at}
}

func end(at int) api.Mark { return api.Mark{Kind: api.MarkEnd, At: at} }

func expect(t *testing.T, text string, want ...api.Mark) {
	t.Helper()
	if got, f := Marks([]byte(text)); f != (api.Fault{}) || !slices.EqualFunc(got, want, same) {
		t.Errorf("%q: %v, %v; not %v", text, got, f, want)
	}
}

func expectFault(t *testing.T, text string, at int) {
	t.Helper()
	if got, f := Marks([]byte(text)); f != (api.Fault{Why: api.ErrMark, At: at}) || len(got) != 0 {
		t.Errorf("%.60q: %v, %v; not a fault at %d", text, got, f, at)
	}
}

// The marks by the document's definition: what stands ahead is looked for by one form after the other.
var (
	betweenForm = regexp.MustCompile(`^([\t\n\r ]|#[^\n]*)`)
	runForm     = regexp.MustCompile(`^[A-Za-z0-9_]+`)
	nameForm    = regexp.MustCompile(`^[A-Za-z]`)
	numberForm  = regexp.MustCompile(`^(0|[1-9][0-9]{0,7}|[1-9][0-9]{0,7}i)$`)
	signForm    = regexp.MustCompile(`^(->|==|[(),:;=+*/<|-])`)
)

const reservedForm = " B L N case conj else fail false if im in let nil not of re strict then true "

func byForms(text string) ([]api.Mark, api.Fault) {
	var all []api.Mark
	at := 0
	for at < len(text) {
		rest := text[at:]
		found := betweenForm.FindString(rest)
		if found != "" {
			at += len(found)
			continue
		}
		m, ok := runByForms(runForm.FindString(rest), at)
		if !ok {
			m = sign(signForm.FindString(rest), at)
		}
		if m.Text == "" {
			return nil, api.Fault{Why: api.ErrMark, At: at}
		}
		all = append(all, m)
		at += len(m.Text)
	}
	return append(all, end(at)), api.Fault{}
}

func runByForms(run string, at int) (api.Mark, bool) {
	switch {
	case run != "" && strings.Contains(reservedForm, " "+run+" "):
		return word(run, at), true
	case nameForm.MatchString(run):
		return name(run, at), true
	case numberForm.MatchString(run):
		digits, imaginary := strings.CutSuffix(run, "i")
		n, _ := strconv.Atoi(digits)
		num := complex(float64(n), 0)
		if imaginary {
			num = complex(0, float64(n))
		}
		return number(run, num, at), n <= api.Most
	}
	return api.Mark{}, false
}

func expectByForms(t *testing.T, text string) {
	t.Helper()
	want, why := byForms(text)
	got, f := Marks([]byte(text))
	if f != why || !slices.EqualFunc(got, want, same) {
		t.Fatalf("%q: %v, %v; not %v, %v", text, got, f, want, why)
	}
}

// P3.1

func TestMarksOfADefinition(t *testing.T) {
	expect(t, "f(x N):N=x+3i;",
		name("f", 0), sign("(", 1), name("x", 2), word("N", 4), sign(")", 5), sign(":", 6), word("N", 7), sign("=", 8),
		name("x", 9), sign("+", 10), number("3i", 3i, 11), sign(";", 13), end(14))
	expect(t, "case l of nil->0|h:t->h*2",
		word("case", 0), name("l", 5), word("of", 7), word("nil", 10), sign("->", 13), number("0", 0, 15), sign("|", 16),
		name("h", 17), sign(":", 18), name("t", 19), sign("->", 20), name("h", 22), sign("*", 23), number("2", 2, 24), end(25))
}

func TestLongerSignsAreRead(t *testing.T) {
	expect(t, "a--b # ->", name("a", 0), sign("-", 1), sign("-", 2), name("b", 3), end(9))
	expect(t, "a->b==c===d",
		name("a", 0), sign("->", 1), name("b", 3), sign("==", 4), name("c", 6), sign("==", 7), sign("=", 9), name("d", 10), end(11))
	expect(t, "====", sign("==", 0), sign("==", 2), end(4))
	expect(t, "= =- ->", sign("=", 0), sign("=", 2), sign("-", 3), sign("->", 5), end(7))
	expect(t, "-->", sign("-", 0), sign("->", 1), end(3))
	expect(t, "->->", sign("->", 0), sign("->", 2), end(4))
	expect(t, "-=<-", sign("-", 0), sign("=", 1), sign("<", 2), sign("-", 3), end(4))
}

func TestEachSign(t *testing.T) {
	for _, s := range strings.Fields("-> == ( ) , : ; = + - * / < |") {
		expect(t, s, sign(s, 0), end(len(s)))
		expect(t, "a"+s+"1", name("a", 0), sign(s, 1), number("1", 1, 1+len(s)), end(2+len(s)))
	}
}

func TestTextsWithoutMarks(t *testing.T) {
	for _, s := range []string{
		"", " ", "\t\n\r ", "#", "##", "# all", "# f(x N):N=@;", "# \n", "#\n#", "#\n\n # \r\n\t# \x00\xff\u00e9", "#\r# 007",
	} {
		expect(t, s, end(len(s)))
	}
	if got, f := Marks(nil); f != (api.Fault{}) || !slices.EqualFunc(got, []api.Mark{end(0)}, same) {
		t.Error(got, f)
	}
}

func TestRemarksEndAtByte10Alone(t *testing.T) {
	expect(t, "a#b\nc", name("a", 0), name("c", 4), end(5))
	expect(t, "a#b\rc", name("a", 0), end(5))
	expect(t, "a#b#\n-#>", name("a", 0), sign("-", 5), end(8))
	expect(t, "=#\n=", sign("=", 0), sign("=", 3), end(4))
	expect(t, "1#\n2", number("1", 1, 0), number("2", 2, 3), end(4))
	expect(t, "#\\\na", name("a", 3), end(4))
}

func TestNumbers(t *testing.T) {
	for text, num := range map[string]complex128{
		"0": 0, "7": 7, "10": 10, "3i": 3i, "1i": 1i, "10i": 10i, "16777215": 16777215, "16777216": 16777216, "16777216i": 16777216i,
		"9999999": 9999999, "9999999i": 9999999i,
	} {
		expect(t, text, number(text, num, 0), end(len(text)))
		expect(t, "-"+text, sign("-", 0), number(text, num, 1), end(1+len(text)))
	}
	expect(t, "2-3i", number("2", 2, 0), sign("-", 1), number("3i", 3i, 2), end(4))
	expect(t, "1 2i 3", number("1", 1, 0), number("2i", 2i, 2), number("3", 3, 5), end(6))
}

func TestNamesAndWords(t *testing.T) {
	for _, s := range []string{
		"a", "Z", "z", "A", "x1", "a_", "a_b", "a__1_", "i", "n", "b", "l", "nil1", "Nil", "trueNil", "NN", "Bool", "of_", "inn", "iN",
		"TRUE", "t1", "b3i", "e1", "strictly", "casenil", "x007", strings.Repeat("ab_0", 5000),
	} {
		expect(t, s, name(s, 0), end(len(s)))
	}
	for _, s := range strings.Fields(reservedForm) {
		expect(t, s, word(s, 0), end(len(s)))
		expect(t, "\n"+s+"("+s, word(s, 1), sign("(", 1+len(s)), word(s, 2+len(s)), end(2+2*len(s)))
		expect(t, s+"1", name(s+"1", 0), end(1+len(s)))
		expect(t, s+"_", name(s+"_", 0), end(1+len(s)))
		expect(t, "x"+s, name("x"+s, 0), end(1+len(s)))
	}
}

func TestFaults(t *testing.T) {
	for _, r := range []struct {
		text string
		at   int
	}{
		{"007", 0}, {"3x", 0}, {"0i", 0}, {"1+16777217", 2}, {"x @", 2}, {"_a", 0}, {"\u00e9", 0}, {"a\x00", 1},
		{"00", 0}, {"01", 0}, {"01i", 0}, {"00i", 0}, {"3i3", 0}, {"3ii", 0}, {"3I", 0}, {"3_", 0}, {"1_0", 0}, {"0x1", 0}, {"1e3", 0},
		{"16777217", 0}, {"16777217i", 0}, {"99999999", 0}, {"4294967297", 0}, {"18446744073709551617", 0}, {"18446744073709551617i", 0},
		{"9223372036854775808", 0}, {"_", 0}, {"__1", 0}, {"_nil", 0}, {"a _", 2}, {"a+_b", 2}, {"x007 007", 5}, {"1.5", 1}, {"1i.", 2},
		{">", 0}, {"a>b", 1}, {"->>", 2}, {"- >", 2}, {"=>", 1}, {"-#\n>", 3}, {"!=", 0}, {"a!b", 1}, {"[", 0}, {"a\u00e9", 1}, {"3\u00e9", 1},
		{"nil\u00e9", 3}, {"\v", 0}, {"a\f", 1}, {"\u00a0", 0}, {"a\xff", 1}, {"\x80", 0}, {"#\n@", 2}, {"# @\n 1 @ # @", 7}, {"\"a\"", 0}, {"'", 0},
		{"@ 007", 0}, {"007 @", 0}, {"3x@", 0}, {"a @ @", 2}, {"_a\x00", 0},
		{strings.Repeat("0", 100000), 0}, {"f " + strings.Repeat("9", 100000) + "i", 2}, {strings.Repeat(" ", 100000) + "@", 100000},
		{strings.Repeat("a ", 50000) + "_" + strings.Repeat("a", 50000), 100000},
	} {
		expectFault(t, r.text, r.at)
	}
}

func TestEachByte(t *testing.T) {
	for c := range 256 {
		for _, text := range []string{
			string([]byte{byte(c)}), string([]byte{'a', byte(c)}), string([]byte{byte(c), 'a'}), string([]byte{'1', byte(c), '2'}),
			string([]byte{'#', byte(c), '\n', 'a'}), string([]byte{'-', byte(c)}), string([]byte{'=', byte(c), '='}),
		} {
			expectByForms(t, text)
		}
	}
}

// Every short text over bytes that stand for each kind, and for the edges between them.
func TestAllShortTexts(t *testing.T) {
	texts := []string{""}
	for range 5 {
		var longer []string
		for _, s := range texts {
			for _, c := range "a0i1_->= \n#@N" {
				longer = append(longer, s+string(c))
			}
		}
		for _, s := range longer {
			expectByForms(t, s)
		}
		texts = longer
	}
}

// drawText is made of pieces that mostly are marks, so that texts go on for long before a fault, if there is one.
func drawText(source *rand.Rand, wrong bool) string {
	pieces := []string{
		"a", "x1", "N", "nil", "case", "strict", "0", "7", "3i", "16777216", "->", "==", "(", ")", ",", ":", ";", "=", "+", "-", "*", "/",
		"<", "|", " ", "  ", "\n", "\t", "\r", "# r @\n", "#\n", " ", " ", "\n",
	}
	bad := []string{"007", "3x", "16777217", "_", "_a", "@", ">", "\x00", "\u00e9", "0i"}
	text := ""
	for range source.Intn(40) {
		piece := pieces[source.Intn(len(pieces))]
		if wrong && source.Intn(12) == 0 {
			piece = bad[source.Intn(len(bad))]
		}
		text += piece
		if !wrong && runForm.MatchString(piece) {
			text += " "
		}
	}
	return text
}

func TestDrawnTexts(t *testing.T) {
	source := rand.New(rand.NewSource(31))
	for range 20000 {
		expectByForms(t, drawText(source, true))
		expectByForms(t, drawText(source, false))
	}
	for range 20000 {
		bytes := make([]byte, source.Intn(30))
		source.Read(bytes)
		expectByForms(t, string(bytes))
	}
}

// A long text takes no more than a few steps a byte: one that took some for each pair of bytes would not end here.
func TestLongTexts(t *testing.T) {
	const long = 1 << 19
	for _, r := range []struct {
		text  string
		count int
	}{
		{strings.Repeat("a ", long/2), long / 2}, {strings.Repeat("-", long), long}, {strings.Repeat("=", long), long / 2},
		{strings.Repeat("a", long), 1}, {strings.Repeat(" ", long), 0}, {strings.Repeat("#", long), 0}, {strings.Repeat("#\n", long/2), 0},
	} {
		got, f := Marks([]byte(r.text))
		if f != (api.Fault{}) || len(got) != r.count+1 || got[r.count] != end(len(r.text)) {
			t.Errorf("%.10q: %d marks, %v", r.text, len(got), f)
		}
	}
}
