package value

import (
	"regexp"
	"slices"
	"strconv"
	"strings"
	"testing"

	"fathom/api"
)

// The forms that the document tells, as patterns; what is above Most is looked at behind them.
const (
	part   = `[1-9][0-9]*`
	whole  = `(?:0|-?` + part + `|-?` + part + `i|-?` + part + `[+-]` + part + `i)`
	listed = `\[(?:` + whole + `(?: ` + whole + `)*)?\]`
)

var (
	partForm  = regexp.MustCompile(part)
	wholeForm = regexp.MustCompile(`\A` + whole + `\z`)
	listForm  = regexp.MustCompile(`\A` + listed + `\z`)
)

// toldNumber reads a text that has the form of a number, without the package's help or layer 1's.
func toldNumber(s string) complex128 {
	z, err := strconv.ParseComplex(s, 128)
	if err != nil {
		panic(err)
	}
	return z
}

func withinMost(s string) bool {
	for _, digits := range partForm.FindAllString(s, -1) {
		if n, err := strconv.Atoi(digits); err != nil || n > api.Most {
			return false
		}
	}
	return true
}

// told is the value of a text by the document's words.
func told(s string) (api.Value, bool) {
	switch {
	case s == "true" || s == "false":
		return truth(s == "true"), true
	case wholeForm.MatchString(s) && withinMost(s):
		return number(toldNumber(s)), true
	case listForm.MatchString(s) && withinMost(s):
		v := list()
		for _, element := range strings.Fields(s[1 : len(s)-1]) {
			v.List = append(v.List, toldNumber(element))
		}
		return v, true
	}
	return api.Value{}, false
}

// toldLines are all ways in which a line is values with blanks between them: each front of it that is a value's text
// is tried, whatever byte it ends with.
func toldLines(s string) [][]api.Value {
	s = strings.TrimLeft(s, " ")
	if s == "" {
		return [][]api.Value{nil}
	}
	var ways [][]api.Value
	for end := 1; end <= len(s); end++ {
		v, ok := told(s[:end])
		if !ok || end < len(s) && s[end] != ' ' {
			continue
		}
		for _, rest := range toldLines(s[end:]) {
			ways = append(ways, append([]api.Value{v}, rest...))
		}
	}
	return ways
}

func expectParseAsTold(t *testing.T, s string) {
	t.Helper()
	want, ok := told(s)
	why := api.OK
	if !ok {
		why = api.ErrValue
	}
	if v, e := Parse(s); !identical(v, want) || e != why {
		t.Errorf("Parse(%q): %v, %d; not %v, %d", s, v, e, want, why)
	}
}

func expectSplitAsTold(t *testing.T, s string) {
	t.Helper()
	ways := toldLines(s)
	l, e := Split(s)
	switch len(ways) {
	case 0:
		if len(l) != 0 || e != api.ErrValue {
			t.Errorf("Split(%q): %v, %d", s, l, e)
		}
	case 1:
		if !slices.EqualFunc(l, ways[0], identical) || e != api.OK {
			t.Errorf("Split(%q): %v, %d; not %v", s, l, e, ways[0])
		}
	default:
		t.Errorf("%q can be cut in %d ways", s, len(ways))
	}
}

// P9.2, P9.3

// All texts of at most 6 of these pieces are taken just if they have the form that the document tells.
func TestAllShortTexts(t *testing.T) {
	texts := []string{""}
	for length := range 7 {
		for _, s := range texts {
			expectParseAsTold(t, s)
			expectSplitAsTold(t, s)
		}
		if length == 6 {
			return
		}
		var longer []string
		for _, s := range texts {
			for _, piece := range []string{"0", "2", "-", "i", " ", "[", "]", "true"} {
				longer = append(longer, s+piece)
			}
		}
		texts = longer
	}
}
