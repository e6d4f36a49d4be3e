package value

import (
	"math"
	"slices"
	"strings"
	"testing"

	"fathom/api"
)

func number(z complex128) api.Value { return api.Value{Type: api.TypeN, Num: z} }

func truth(is bool) api.Value { return api.Value{Type: api.TypeB, Bool: is} }

func list(elements ...complex128) api.Value { return api.Value{Type: api.TypeL, List: elements} }

func sameBits(a, b complex128) bool {
	return math.Float64bits(real(a)) == math.Float64bits(real(b)) && math.Float64bits(imag(a)) == math.Float64bits(imag(b))
}

// identical compares all fields, also those that the type doesn't name, and tells -0 from +0.
func identical(a, b api.Value) bool {
	return a.Type == b.Type && sameBits(a.Num, b.Num) && a.Bool == b.Bool && slices.EqualFunc(a.List, b.List, sameBits)
}

// noNumbers are what is no number (layer 1), in either part; a -0 is none.
func noNumbers() []complex128 {
	var all []complex128
	for _, x := range []float64{
		math.NaN(), math.Inf(1), math.Inf(-1), 0.5, -0.5, 16777215.5, api.Most + 1, -api.Most - 1, math.MaxFloat64,
		math.SmallestNonzeroFloat64, math.Copysign(0, -1),
	} {
		all = append(all, complex(x, 0), complex(0, x), complex(x, x))
	}
	return append(all, complex(math.Copysign(0, -1), 3), complex(3, math.Copysign(0, -1)))
}

// sample is values, no two of them the same, with their texts.
func sample() ([]api.Value, []string) {
	values, texts := []api.Value{truth(true), truth(false), list()}, []string{"true", "false", "[]"}
	for _, r := range []struct {
		z    complex128
		text string
	}{
		{0, "0"}, {1, "1"}, {-7, "-7"}, {10, "10"}, {3i, "3i"}, {-1i, "-1i"}, {2 + 1i, "2+1i"}, {-2 - 3i, "-2-3i"},
		{16777216, "16777216"}, {-16777216 + 16777216i, "-16777216+16777216i"}, {-16777216i, "-16777216i"},
	} {
		values = append(values, number(r.z), list(r.z), list(r.z, 0), list(0, r.z, 5))
		texts = append(texts, r.text, "["+r.text+"]", "["+r.text+" 0]", "[0 "+r.text+" 5]")
	}
	values = append(values, list(1, 2i, -3), list(1, 2), list(2, 1), list(1, 1), list(1, 1, 1), list(12), list(0, 0, 0))
	texts = append(texts, "[1 2i -3]", "[1 2]", "[2 1]", "[1 1]", "[1 1 1]", "[12]", "[0 0 0]")
	return values, texts
}

// noValues are wrong in just one field each.
func noValues() []api.Value {
	all := []api.Value{
		{}, {Type: 4}, {Type: -1}, {Type: math.MaxInt}, {Type: math.MinInt}, {Type: 256 + api.TypeN}, {Type: 1<<32 + api.TypeL},
		{Num: 1}, {Bool: true}, {List: []complex128{1}},
		{Type: api.TypeN, Num: 1, Bool: true}, {Type: api.TypeN, Bool: true}, {Type: api.TypeN, List: []complex128{0}},
		{Type: api.TypeN, Num: 1, List: []complex128{1}}, {Type: api.TypeB, Num: 1}, {Type: api.TypeB, Bool: true, Num: -1i},
		{Type: api.TypeB, List: []complex128{0}}, {Type: api.TypeB, Bool: true, List: []complex128{1}},
		{Type: api.TypeL, Bool: true}, {Type: api.TypeL, Num: 1}, {Type: api.TypeL, Num: 1i, List: []complex128{1i}},
		{Type: api.TypeL, Bool: true, List: []complex128{1}},
	}
	for _, z := range noNumbers() {
		all = append(all, number(z), list(z), list(z, 1, 2), list(1, z, 2), list(1, 2, z),
			api.Value{Type: api.TypeB, Num: z}, api.Value{Type: api.TypeB, Bool: true, Num: z},
			api.Value{Type: api.TypeL, Num: z}, api.Value{Type: api.TypeL, Num: z, List: []complex128{1}})
	}
	return all
}

// P9.1

func TestCheckAndText(t *testing.T) {
	values, texts := sample()
	for i, v := range values {
		if e := Check(v); e != api.OK {
			t.Errorf("Check(%v): %d", v, e)
		}
		if s, e := Text(v); s != texts[i] || e != api.OK {
			t.Errorf("Text(%v): %q, %d; not %q", v, s, e, texts[i])
		}
	}
}

func TestCheckAndTextOfNoValue(t *testing.T) {
	for _, v := range noValues() {
		if e := Check(v); e != api.ErrShape {
			t.Errorf("Check(%v): %d", v, e)
		}
		if s, e := Text(v); s != "" || e != api.ErrShape {
			t.Errorf("Text(%v): %q, %d", v, s, e)
		}
	}
}

// nil and a list without elements are one, whatever its spare room holds.
func TestNoElements(t *testing.T) {
	for _, none := range [][]complex128{nil, {}, make([]complex128, 0, 4), noNumbers()[:0]} {
		for _, r := range []struct {
			v    api.Value
			text string
		}{
			{api.Value{Type: api.TypeN, Num: 2, List: none}, "2"},
			{api.Value{Type: api.TypeB, List: none}, "false"},
			{api.Value{Type: api.TypeL, List: none}, "[]"},
		} {
			if s, e := Text(r.v); s != r.text || e != api.OK || Check(r.v) != api.OK {
				t.Errorf("Text(%v): %q, %d; Check: %d", r.v, s, e, Check(r.v))
			}
			bare := r.v
			bare.List = nil
			if !Same(r.v, bare) || !Same(bare, r.v) {
				t.Errorf("Same(%v, %v): false", r.v, bare)
			}
		}
	}
}

func TestLongLists(t *testing.T) {
	const n = 1 << 20
	long := list(slices.Repeat([]complex128{-5 + 3i}, n)...)
	text := "[" + strings.Repeat("-5+3i ", n-1) + "-5+3i]"
	if s, e := Text(long); s != text || e != api.OK {
		t.Errorf("Text of %d elements: %d bytes, %d", n, len(s), e)
	}
	if v, e := Parse(text); !identical(v, long) || e != api.OK {
		t.Errorf("Parse of %d elements: %d, %d", n, len(v.List), e)
	}
	if l, e := Split(text + " " + text); len(l) != 2 || !identical(l[0], long) || !identical(l[1], long) || e != api.OK {
		t.Errorf("Split of twice %d elements: %d, %d", n, len(l), e)
	}
	long.List[n-1] = 0.5
	if s, e := Text(long); s != "" || e != api.ErrShape || Check(long) != api.ErrShape {
		t.Errorf("with 0.5 behind: %d bytes, %d, %d", len(s), e, Check(long))
	}
}

// P9.4

func TestSame(t *testing.T) {
	values, _ := sample()
	for i, a := range values {
		for j, b := range values {
			b.List = slices.Clone(b.List)
			if is := Same(a, b); is != (i == j) {
				t.Errorf("Same(%v, %v): %v", a, b, is)
			}
		}
	}
}

func TestSameOfNoValue(t *testing.T) {
	values, _ := sample()
	for _, bad := range noValues() {
		for _, v := range append(values, bad) {
			if Same(bad, v) || Same(v, bad) {
				t.Errorf("Same of %v and %v: true", bad, v)
			}
		}
	}
}
