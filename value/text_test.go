package value

import (
	"slices"
	"strings"
	"testing"

	"fathom/api"
)

// wrongTexts are the texts of no value that are wrong in a line, too, as they hold no blank.
func wrongTexts() []string {
	return []string{
		"True", "TRUE", "False", "t", "tru", "truee", "truefalse", "falsetrue", "fals", "nil", "x", "N", "yes", "\x00", "\xff", "\u00a0",
		"i", "+1", "+1i", "-", "0i", "-0", "00", "01", "1+0i", "0+1i", "1.0", "1e3", "0x1", "1_0", "16777217", "-16777217i", "NaN",
		"99999999999999999999", "[", "]", "[[", "]]", "][", "[[]", "[]]", "[[]]", "[1", "1]", "[1]]", "[[1]", "[[1]]", "[1]2", "2[1]",
		"[1[2]]", "[][]", "[1][2]", "[]1", "[]true", "true[]", "[true]", "[false]", "[1,2]", "[,]", "[1;2]", "[1:2]", "[1:[]]", "(1)", "{}",
		"{1}", "[x]", "[01]", "[+1]", "[-0]", "[16777217]", "[i]", "[1.5]", "1,2", "1:2", "1;2", "\"1\"", "'1'", "[\xff]", "[1\u00a02]",
		"[\t]", "[1\t2]", "[1\n2]", "\t", "\n", "1\t2", "1\n", "\n1", "1\r", "1\v2", "1\f2", "1\x002", "1\u00a02", "1\u20032", "\ufeff1", "#", "1#",
	}
}

// P9.2

func TestParse(t *testing.T) {
	values, texts := sample()
	for i, s := range texts {
		if v, e := Parse(s); !identical(v, values[i]) || e != api.OK {
			t.Errorf("Parse(%q): %v, %d; not %v", s, v, e, values[i])
		}
	}
}

func expectNoValue(t *testing.T, s string) {
	t.Helper()
	if v, e := Parse(s); !identical(v, api.Value{}) || e != api.ErrValue {
		t.Errorf("Parse(%q): %v, %d", s, v, e)
	}
}

func TestParseOfNoText(t *testing.T) {
	for _, s := range wrongTexts() {
		expectNoValue(t, s)
	}
	for _, s := range []string{
		"", " ", "  ", " 1", "1 ", " 1 ", "1 2", " true", "true ", "true false", " []", "[] ", "[1] ", " [1]", "[1] [2]", "[1] ]", "[ 1]",
		"[1 ]", "[ ]", "[  ]", "[1  2]", "[1 2 ]", "[ 1 2]", "[1 2] 3", "[1 x]", "[1 2", "[1 true]", "[1 [2]]", "[1 16777217]", "[1 -]",
		"2 + 1i", "- 1", "1 i", "[1, 2]", "[1 +2i]", "[0 0.5]",
	} {
		expectNoValue(t, s)
	}
}

// No byte ahead of, within or behind a text is passed over.
func TestParseWithOneByteMore(t *testing.T) {
	for _, s := range []string{"true", "false", "[]", "[1]", "[1 2i]", "-3", "2-3i"} {
		for c := range 256 {
			for at := range len(s) + 1 {
				expectParseAsTold(t, s[:at]+string([]byte{byte(c)})+s[at:])
			}
		}
	}
}

func TestParseWithOneByteLess(t *testing.T) {
	for _, s := range []string{"true", "false", "[]", "[1]", "[1 2i]", "[12 -3+4i 0]", "-3", "2-3i"} {
		for at := range len(s) {
			expectParseAsTold(t, s[:at]+s[at+1:])
		}
	}
}

// P9.3

func TestSplit(t *testing.T) {
	for _, r := range []struct {
		s    string
		want []api.Value
	}{
		{"", nil}, {" ", nil}, {"     ", nil},
		{" 1  [2 3] true ", []api.Value{number(1), list(2, 3), truth(true)}},
		{"1", []api.Value{number(1)}}, {"1 2", []api.Value{number(1), number(2)}}, {"2 1", []api.Value{number(2), number(1)}},
		{"1 1 1", []api.Value{number(1), number(1), number(1)}}, {"   -1i", []api.Value{number(-1i)}}, {"0   ", []api.Value{number(0)}},
		{"[]", []api.Value{list()}}, {"[] []", []api.Value{list(), list()}}, {"  []   []  ", []api.Value{list(), list()}},
		{"[1] [2]", []api.Value{list(1), list(2)}}, {"[1 2] [1 2] 1 2", []api.Value{list(1, 2), list(1, 2), number(1), number(2)}},
		{"true false", []api.Value{truth(true), truth(false)}}, {"[] false []", []api.Value{list(), truth(false), list()}},
		{"2-3i [2-3i 4] true", []api.Value{number(2 - 3i), list(2-3i, 4), truth(true)}},
		{"16777216 -16777216+16777216i", []api.Value{number(16777216), number(-16777216 + 16777216i)}},
	} {
		if l, e := Split(r.s); !slices.EqualFunc(l, r.want, identical) || e != api.OK {
			t.Errorf("Split(%q): %v, %d; not %v", r.s, l, e, r.want)
		}
	}
}

func expectNoLine(t *testing.T, s string) {
	t.Helper()
	if l, e := Split(s); len(l) != 0 || e != api.ErrValue {
		t.Errorf("Split(%q): %v, %d", s, l, e)
	}
}

// A wrong text is wrong in a line, too: alone, ahead of, between and behind good ones.
func TestSplitOfNoLine(t *testing.T) {
	for _, s := range append(wrongTexts(), "[ 1]", "[1 ]", "[ ]", "[1  2]", "[1 2", "[1 [2]]", "[1 true]", "[1 x]") {
		for _, ahead := range []string{"", " ", "   ", "1 ", "true ", "[1 2]  ", " [] [] "} {
			for _, behind := range []string{"", " ", "   ", " 1", " false", "  [3i 4]", " [] "} {
				expectNoLine(t, ahead+s+behind)
			}
		}
	}
	for _, s := range []string{"1[2]", "[1] ]", "[1][2]", "[1 2]3", "[1 2]true", "[ 1 2 ]", "[ [1] ]", "1 2]", "[1 2 3", "- 1", "2 + 1i"} {
		expectNoLine(t, s)
	}
}

// No byte but the blank parts two values, or stands around them.
func TestSplitByOtherBytes(t *testing.T) {
	for c := range 256 {
		part := string([]byte{byte(c)})
		for _, r := range []string{"true" + part + "false", "[1]" + part + "[2]", part + "[1]", "[1]" + part, "[1] " + part + " [2]", "[]" + part + " []"} {
			expectSplitAsTold(t, r)
		}
	}
}

// Texts that are long, and wrong only behind, or all of one byte.
func TestLongTexts(t *testing.T) {
	const n = 1 << 18
	for _, s := range []string{
		strings.Repeat("[", n), strings.Repeat("]", n), "[" + strings.Repeat(" ", n) + "]", strings.Repeat("[]", n), strings.Repeat("9", n),
		strings.Repeat("0", n), strings.Repeat("[1 ", n), "[" + strings.Repeat("1 ", n) + "x]", strings.Repeat("true", n), strings.Repeat("[", n) + strings.Repeat("]", n),
		"[" + strings.Repeat("1 ", n) + "1",
	} {
		if v, e := Parse(s); !identical(v, api.Value{}) || e != api.ErrValue {
			t.Errorf("Parse of %d bytes, %q ahead: %d", len(s), s[:4], e)
		}
		if l, e := Split(s); len(l) != 0 || e != api.ErrValue {
			t.Errorf("Split of %d bytes, %q ahead: %d values, %d", len(s), s[:4], len(l), e)
		}
	}
	if l, e := Split(strings.Repeat(" ", n)); len(l) != 0 || e != api.OK {
		t.Errorf("Split of %d blanks: %d values, %d", n, len(l), e)
	}
	if l, e := Split(strings.Repeat(" []", n)); len(l) != n || e != api.OK {
		t.Errorf("Split of %d lists: %d values, %d", n, len(l), e)
	}
	if l, e := Split(strings.Repeat("true ", n) + "]"); len(l) != 0 || e != api.ErrValue {
		t.Errorf("Split of a row with ] behind: %d values, %d", len(l), e)
	}
}
