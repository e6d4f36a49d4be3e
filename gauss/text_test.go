package gauss

import (
	"regexp"
	"strings"
	"testing"

	"fathom/api"
)

// P1.5

func TestTexts(t *testing.T) {
	for _, r := range []struct {
		z    complex128
		text string
	}{
		{0, "0"}, {7, "7"}, {-7, "-7"}, {10, "10"}, {3i, "3i"}, {1i, "1i"}, {-1i, "-1i"}, {2 + 1i, "2+1i"}, {2 - 3i, "2-3i"},
		{-2 + 3i, "-2+3i"}, {-2 - 1i, "-2-1i"}, {100 - 200i, "100-200i"}, {16777216, "16777216"}, {-16777216, "-16777216"},
		{16777216i, "16777216i"}, {-16777216i, "-16777216i"}, {16777216 + 16777216i, "16777216+16777216i"},
		{-16777216 - 16777216i, "-16777216-16777216i"}, {16777215 - 1i, "16777215-1i"},
	} {
		if s, e := Text(r.z); s != r.text || e != api.OK {
			t.Errorf("Text(%v): %q, %d", r.z, s, e)
		}
		if z, e := Parse(r.text); !same(z, r.z) || e != api.OK {
			t.Errorf("Parse(%q): %v, %d", r.text, z, e)
		}
	}
}

func TestTextOfNoNumber(t *testing.T) {
	for _, bad := range noNumbers() {
		if s, e := Text(bad); s != "" || e != api.ErrShape {
			t.Errorf("Text(%v): %q, %d", bad, s, e)
		}
	}
}

func TestTextsOfNoNumber(t *testing.T) {
	for _, s := range []string{
		"", " ", "i", "+", "-", "-i", "+i", "+1", "+1i", "0i", "-0i", "1+0i", "1-0i", "0+1i", "0-1i", "-0+1i", "-0", "00", "01",
		"-01", "01i", "1+01i", "01+1i", "1+1", "1-1", "1+i", "1-i", "1+-1i", "1-+1i", "1++1i", "1--1i", "--1", "--1i", "-+1i",
		"1i+1", "1i1", "1ii", "i1", "1+2+3i", "1+2-3i", "1-2-3i", "1i+2i", "1I", "1j", "1_0", "1_0i", "0x1", "0b1", "0o7", "1e3", "1.0", "1.",
		" 1", "1 ", "1 i", "1 +1i", "1+ 1i", "1\n", "1\x00", "\t1", "(1+1i)", "1,0", "NaN", "Inf", "-Inf", "+Infi", "nil", "true",
		"16777217", "-16777217", "16777217i", "-16777217i", "1+16777217i", "1-16777217i", "16777217+1i", "-16777217-1i",
		"9223372036854775807", "9223372036854775808", "18446744073709551617", "4294967297", "4294967297i", "1+18446744073709551617i",
		"99999999999999999999", "-99999999999999999999i", "\u0661", "1\u2212" + "1i", "\xff", "1\xff",
		strings.Repeat("0", 100000), strings.Repeat("9", 100000) + "i", "1" + strings.Repeat("+", 100000) + "i",
	} {
		if z, e := Parse(s); !same(z, 0) || e != api.ErrNumber {
			t.Errorf("Parse(%q): %v, %d", s, z, e)
		}
	}
}

// Every short text over these bytes is taken just if it has the form that the document tells.
func TestAllShortTexts(t *testing.T) {
	form := regexp.MustCompile(`^(0|-?[1-9][0-9]*|-?[1-9][0-9]*i|-?[1-9][0-9]*[+-][1-9][0-9]*i)$`)
	texts := []string{""}
	for range 6 {
		var longer []string
		for _, s := range texts {
			for _, c := range "012+-i" {
				longer = append(longer, s+string(c))
			}
		}
		for _, s := range longer {
			z, e := Parse(s)
			if want := form.MatchString(s); want != (e == api.OK) || !want && (e != api.ErrNumber || !same(z, 0)) {
				t.Errorf("Parse(%q): %v, %d", s, z, e)
			}
			if back, f := Text(z); e == api.OK && (back != s || f != api.OK) {
				t.Errorf("Text(Parse(%q)): %q, %d", s, back, f)
			}
		}
		texts = longer
	}
}
