package value

import (
	"math/rand"
	"slices"
	"strings"
	"testing"

	"fathom/api"
)

func drawPart(source *rand.Rand) float64 {
	most := 1 << source.Intn(25)
	return float64(source.Intn(2*most+1) - most)
}

func drawNumber(source *rand.Rand) complex128 {
	x, y := drawPart(source), drawPart(source)
	switch source.Intn(4) {
	case 0:
		x = 0
	case 1:
		y = 0
	}
	return complex(x, y)
}

func drawValue(source *rand.Rand) api.Value {
	switch source.Intn(4) {
	case 0:
		return truth(source.Intn(2) == 0)
	case 1:
		return number(drawNumber(source))
	}
	v := list()
	for range source.Intn(6) {
		v.List = append(v.List, drawNumber(source))
	}
	return v
}

func drawValues(seed int64, n int) []api.Value {
	source := rand.New(rand.NewSource(seed))
	var all []api.Value
	for range n {
		all = append(all, drawValue(source))
	}
	return all
}

func textOf(t *testing.T, v api.Value) string {
	t.Helper()
	s, e := Text(v)
	if e != api.OK {
		t.Fatalf("Text(%v): %d", v, e)
	}
	return s
}

// P9.5

func TestParseTakesTextBack(t *testing.T) {
	values, _ := sample()
	for _, v := range append(values, drawValues(91, 20000)...) {
		s := textOf(t, v)
		back, e := Parse(s)
		if !identical(back, v) || !Same(back, v) || e != api.OK {
			t.Fatalf("Parse(%q): %v, %d; not %v", s, back, e, v)
		}
		if again := textOf(t, back); again != s {
			t.Fatalf("Text(%v): %q, not %q", back, again, s)
		}
	}
}

func TestOneTextJustOfTheSame(t *testing.T) {
	values, _ := sample()
	values = append(values, drawValues(92, 600)...)
	texts := make([]string, len(values))
	for i, v := range values {
		texts[i] = textOf(t, v)
	}
	for i, a := range values {
		for j, b := range values {
			if is := Same(a, b); is != (texts[i] == texts[j]) || is != identical(a, b) {
				t.Fatalf("Same(%v, %v): %v; texts %q, %q", a, b, is, texts[i], texts[j])
			}
		}
	}
}

func TestSplitTakesTextsBack(t *testing.T) {
	source := rand.New(rand.NewSource(93))
	blanks := func(least int) string { return strings.Repeat(" ", least+source.Intn(3)) }
	for range 5000 {
		var values []api.Value
		line := blanks(0)
		for k := range source.Intn(6) {
			v := drawValue(source)
			values = append(values, v)
			line += blanks(min(k, 1)) + textOf(t, v)
		}
		line += blanks(0)
		if l, e := Split(line); !slices.EqualFunc(l, values, identical) || e != api.OK {
			t.Fatalf("Split(%q): %v, %d; not %v", line, l, e, values)
		}
	}
}

// A line with one byte changed is still read as the document tells.
func TestSplitOfChangedLines(t *testing.T) {
	source := rand.New(rand.NewSource(94))
	for range 5000 {
		var line []byte
		for range 1 + source.Intn(3) {
			line = append(append(line, textOf(t, drawValue(source))...), ' ')
		}
		line[source.Intn(len(line))] = "0123-+i[] \t,tx"[source.Intn(14)]
		expectSplitAsTold(t, string(line))
		expectParseAsTold(t, strings.TrimSpace(string(line)))
	}
}

// P9.6

// What is handed in stays, its spare room too.
func TestWhatIsHandedInStays(t *testing.T) {
	values, _ := sample()
	for _, v := range append(values, noValues()...) {
		room := append(slices.Clone(v.List), 0.5, -7, 3i)
		before := slices.Clone(room)
		v.List = room[:len(v.List)]
		kept := v
		Check(v)
		Text(v)
		Same(v, v)
		if !slices.EqualFunc(room, before, sameBits) || !identical(v, kept) {
			t.Errorf("%v: %v, not %v", v, room, before)
		}
	}
}

// spoil fills a list and its spare room.
func spoil(l []complex128) {
	for i := range l[:cap(l)] {
		l[:cap(l)][i] = 99
	}
}

func TestParseAnswersNewMemory(t *testing.T) {
	for _, s := range []string{"[]", "[1]", "[1 2i -3]", "[5 4 3 2 1]"} {
		want, _ := told(s)
		first, _ := Parse(s)
		second, _ := Parse(s)
		spoil(first.List)
		third, _ := Parse(s)
		if !identical(second, want) || !identical(third, want) {
			t.Errorf("Parse(%q): %v, %v", s, second, third)
		}
	}
}

func TestSplitAnswersNewMemory(t *testing.T) {
	const line = "[1 2 3] [1 2 3] [] [4] 5 true [6 7]"
	want := toldLines(line)[0]
	for i := range want {
		first, _ := Split(line)
		second, _ := Split(line)
		spoil(first[i].List)
		for j := range want {
			if j != i && !identical(first[j], want[j]) {
				t.Errorf("value %d spoilt by value %d: %v", j, i, first[j])
			}
		}
		clear(first[:cap(first)])
		third, _ := Split(line)
		if !slices.EqualFunc(second, want, identical) || !slices.EqualFunc(third, want, identical) {
			t.Errorf("Split(%q): %v, %v", line, second, third)
		}
	}
}
