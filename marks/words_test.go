package marks

import (
	"slices"
	"strings"
	"testing"
)

// P3.2

func TestWords(t *testing.T) {
	if got := Words(); !slices.Equal(got, strings.Fields(reservedForm)) {
		t.Error(got)
	}
	if got := Words(); !slices.IsSorted(got) {
		t.Error(got)
	}
}

func TestReserved(t *testing.T) {
	for _, s := range strings.Fields(reservedForm) {
		if !Reserved(s) {
			t.Errorf("%q is reserved", s)
		}
		for _, other := range []string{s + " ", " " + s, s + "1", s + "\x00", s + s, s[:len(s)-1] + "\xff", "_" + s, "#" + s} {
			if Reserved(other) {
				t.Errorf("%q is not reserved", other)
			}
		}
	}
	for _, s := range []string{
		"", " ", "b", "n", "l", "i", "I", "Strict", "STRICT", "nilx", "Nil", "tru", "fals", "cas", "iff", "f", "n", "o", "r", "end", "and", "or",
		"->", "0", "case conj", "\u00ee" + "f", "else\n", "wher", "where", "list", "bool",
	} {
		if Reserved(s) {
			t.Errorf("%q is not reserved", s)
		}
	}
}

// All texts of up to three letters, and the longer pieces of the words.
func TestReservedAmongAll(t *testing.T) {
	held := func(s string) {
		if want := slices.Contains(strings.Fields(reservedForm), s); Reserved(s) != want {
			t.Errorf("%q: %v", s, !want)
		}
	}
	letters := "ABCDEFGHIJKLMNOPQRSTUVWXYZabcdefghijklmnopqrstuvwxyz"
	for _, a := range letters {
		held(string(a))
		for _, b := range letters {
			held(string(a) + string(b))
			for _, c := range letters {
				held(string(a) + string(b) + string(c))
			}
		}
	}
	for _, s := range strings.Fields(reservedForm) {
		for from := range len(s) {
			for to := from; to <= len(s); to++ {
				held(s[from:to])
			}
		}
		held(strings.ToUpper(s))
		held(strings.ToLower(s))
	}
}

// P3.4

func TestWordsAreNewMemory(t *testing.T) {
	first, second := Words(), Words()
	for i := range first[:cap(first)] {
		first[:cap(first)][i] = "x"
	}
	if want := strings.Fields(reservedForm); !slices.Equal(second, want) || !slices.Equal(Words(), want) {
		t.Error(second, Words())
	}
	if Reserved("x") || !Reserved("B") || !Reserved("true") {
		t.Error("Reserved hangs on what was written into an answer")
	}
}
