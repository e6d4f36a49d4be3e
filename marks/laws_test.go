package marks

import (
	"bytes"
	"math/rand"
	"slices"
	"strings"
	"testing"

	"fathom/api"
)

// soundTexts are texts that have marks, the same ones each time.
func soundTexts(n int) []string {
	source := rand.New(rand.NewSource(33))
	all := []string{
		"", " ", "# r", "#", "#\n", "a", "a#", "a#b\n", "->", "-", "=", "3i", "nil", "sum(l L):N=case l of nil->0|h:t->h+sum(t); # all of it",
	}
	for len(all) < n {
		all = append(all, drawText(source, false))
	}
	return all
}

func marksOf(t *testing.T, text string) []api.Mark {
	t.Helper()
	all, f := Marks([]byte(text))
	if f != (api.Fault{}) || len(all) == 0 || all[len(all)-1] != end(len(text)) {
		t.Fatalf("%q: %v, %v", text, all, f)
	}
	return all
}

// shift is the marks as they stand that many bytes later.
func shift(all []api.Mark, by int) []api.Mark {
	later := slices.Clone(all)
	for i := range later {
		later[i].At += by
	}
	return later
}

// withoutPlaces is the marks, each at 0.
func withoutPlaces(all []api.Mark) []api.Mark {
	bare := slices.Clone(all)
	for i := range bare {
		bare[i].At = 0
	}
	return bare
}

// P3.3

// uncovered is what is left of a text between its marks, the remarks taken out.
func uncovered(t *testing.T, text string, all []api.Mark) string {
	t.Helper()
	left, at := "", 0
	for _, m := range all {
		if m.At < at || !strings.HasPrefix(text[m.At:], m.Text) || m.Text == "" && m.Kind != api.MarkEnd {
			t.Fatalf("%q: %v behind %d", text, m, at)
		}
		left += text[at:m.At] + "\n"
		at = m.At + len(m.Text)
	}
	for {
		from, to, found := strings.Cut(left, "#")
		if !found {
			return left
		}
		_, to, _ = strings.Cut(to, "\n")
		left = from + to
	}
}

func TestMarksCoverTheText(t *testing.T) {
	for _, text := range soundTexts(5000) {
		if left := uncovered(t, text, marksOf(t, text)); strings.Trim(left, "\t\n\r ") != "" {
			t.Errorf("%q: %q is under no mark", text, left)
		}
	}
}

func TestMarksOfTwoTexts(t *testing.T) {
	all := soundTexts(250)
	for _, one := range all {
		for _, other := range all {
			first, second := marksOf(t, one), marksOf(t, other)
			want := append(slices.Clone(first[:len(first)-1]), shift(second, len(one)+1)...)
			if got := marksOf(t, one+"\n"+other); !slices.EqualFunc(got, want, same) {
				t.Fatalf("%q and %q: %v; not %v", one, other, got, want)
			}
		}
	}
}

// A fault of the first text is that of both; else it is the second one's, at its place there.
func TestFaultsOfTwoTexts(t *testing.T) {
	for _, bad := range []string{"007", "a @", "_", "->>", "1 3x # @", "#\n>"} {
		_, f := Marks([]byte(bad))
		for _, text := range soundTexts(200) {
			expectFault(t, bad+"\n"+text, f.At)
			expectFault(t, text+"\n"+bad, f.At+len(text)+1)
		}
	}
}

func TestBlanksMoreChangePlacesAlone(t *testing.T) {
	source := rand.New(rand.NewSource(34))
	blanks := []string{" ", "\t", "\n", "\r", " \r\n\t", "# r\n", "#\n", "  # -> 007 @\n "}
	for _, text := range soundTexts(5000) {
		all := marksOf(t, text)
		at, wider := 0, ""
		var want []api.Mark
		for _, m := range all {
			// Ahead of the end a remark may be open, which would take in what is added there.
			wider += text[at:m.At]
			if m.Kind != api.MarkEnd {
				wider += strings.Repeat(blanks[source.Intn(len(blanks))], source.Intn(3))
			}
			at = m.At + len(m.Text)
			m.At = len(wider)
			want = append(want, m)
			wider += m.Text
		}
		if got := marksOf(t, wider); !slices.EqualFunc(got, want, same) {
			t.Fatalf("%q: %v; not %v", wider, got, want)
		}
		if !slices.EqualFunc(withoutPlaces(want), withoutPlaces(all), same) {
			t.Fatalf("%q: not the marks of %q", wider, text)
		}
	}
}

// P3.4

func TestTextStaysAndAnswersAreNew(t *testing.T) {
	for _, text := range append(soundTexts(500), "007", "a b 3x", "@", "a\x00") {
		room := append([]byte(text), " a->16777216 nil # @"...)
		before := bytes.Clone(room)
		first, f := Marks(room[:len(text)])
		second, g := Marks(room[:len(text)])
		if !bytes.Equal(room, before) {
			t.Fatalf("%q was changed to %q", before, room)
		}
		want := slices.Clone(first)
		if f != g || !slices.EqualFunc(second, want, same) {
			t.Fatalf("%q: %v, %v and %v, %v", text, first, f, second, g)
		}
		for i := range room {
			room[i] = 'x'
		}
		if byText, _ := byForms(text); !slices.EqualFunc(first, byText, same) {
			t.Fatalf("%q: the marks follow what is written into the text: %v", text, first)
		}
		for i := range first[:cap(first)] {
			first[:cap(first)][i] = api.Mark{Kind: 9, Text: "y", Num: 9, At: 9}
		}
		if third, _ := Marks([]byte(text)); !slices.EqualFunc(second, want, same) || !slices.EqualFunc(third, want, same) {
			t.Fatalf("%q: an answer hangs on an earlier one", text)
		}
	}
}
