package gauss

import (
	"math"
	"testing"

	"fathom/api"
)

type operation struct {
	name string
	do   func(a, b complex128) (complex128, api.Errno)
}

func operations() []operation {
	return []operation{{"Add", Add}, {"Sub", Sub}, {"Mul", Mul}, {"Quo", Quo}}
}

// number makes a number without the package's help.
func number(x, y int64) complex128 { return complex(float64(x), float64(y)) }

// same also tells -0 from +0.
func same(a, b complex128) bool {
	return math.Float64bits(real(a)) == math.Float64bits(real(b)) && math.Float64bits(imag(a)) == math.Float64bits(imag(b))
}

// noNumbers are the shapes that the document names, each in either part.
func noNumbers() []complex128 {
	var all []complex128
	for _, x := range []float64{
		math.NaN(), math.Inf(1), math.Inf(-1), math.Copysign(0, -1), 0.5, -0.5, 1.25, 16777215.5, -16777215.5,
		api.Most + 1, -api.Most - 1, api.Most + 0.5, math.MaxFloat64, math.SmallestNonzeroFloat64, 1 << 62,
	} {
		all = append(all, complex(x, 0), complex(0, x), complex(x, 7), complex(-7, x), complex(x, x))
	}
	return all
}

// parts are small ones, and those around the greatest.
func parts() []int64 {
	return []int64{
		0, 1, -1, 2, -2, 3, -5, 12, 4096, -4096, 4097, 8388608, -8388608, 8388609,
		api.Most - 1, 1 - api.Most, api.Most, -api.Most,
	}
}

func numbers() [][2]int64 {
	var all [][2]int64
	for _, x := range parts() {
		for _, y := range parts() {
			all = append(all, [2]int64{x, y})
		}
	}
	return all
}

func fits(x, y int64) bool {
	return -api.Most <= x && x <= api.Most && -api.Most <= y && y <= api.Most
}

// P1.1

func TestMakeAndParts(t *testing.T) {
	for _, p := range numbers() {
		z, e := Make(int(p[0]), int(p[1]))
		if e != api.OK || !same(z, number(p[0], p[1])) {
			t.Errorf("Make(%d, %d): %v, %d", p[0], p[1], z, e)
		}
		if !Valid(z) {
			t.Errorf("Valid(%v): false", z)
		}
		if x, y, e := Parts(z); int64(x) != p[0] || int64(y) != p[1] || e != api.OK {
			t.Errorf("Parts(%v): %d, %d, %d", z, x, y, e)
		}
	}
}

func TestMakeOutOfRange(t *testing.T) {
	for _, far := range []int{api.Most + 1, -api.Most - 1, 1 << 25, -1 << 25, 1 << 53, math.MaxInt, math.MinInt} {
		for _, near := range []int{0, 1, api.Most, -api.Most, far} {
			for _, p := range [][2]int{{far, near}, {near, far}} {
				if z, e := Make(p[0], p[1]); e != api.ErrRange || !same(z, 0) {
					t.Errorf("Make(%d, %d): %v, %d", p[0], p[1], z, e)
				}
			}
		}
	}
}

func TestNoNumbers(t *testing.T) {
	for _, z := range noNumbers() {
		if Valid(z) {
			t.Errorf("Valid(%v): true", z)
		}
		if x, y, e := Parts(z); x != 0 || y != 0 || e != api.ErrShape {
			t.Errorf("Parts(%v): %d, %d, %d", z, x, y, e)
		}
	}
}

// P1.2

func expect(t *testing.T, name string, a, b [2]int64, got complex128, e api.Errno, x, y int64) {
	t.Helper()
	want, why := number(x, y), api.OK
	if !fits(x, y) {
		want, why = 0, api.TrapOver
	}
	if e != why || !same(got, want) {
		t.Errorf("%s(%v, %v): %v, %d; not %v, %d", name, a, b, got, e, want, why)
	}
}

func TestSumsAndProducts(t *testing.T) {
	for _, p := range numbers() {
		for _, q := range numbers() {
			a, b := number(p[0], p[1]), number(q[0], q[1])
			sum, e := Add(a, b)
			expect(t, "Add", p, q, sum, e, p[0]+q[0], p[1]+q[1])
			difference, e := Sub(a, b)
			expect(t, "Sub", p, q, difference, e, p[0]-q[0], p[1]-q[1])
			product, e := Mul(a, b)
			expect(t, "Mul", p, q, product, e, p[0]*q[0]-p[1]*q[1], p[0]*q[1]+p[1]*q[0])
		}
	}
}

func TestSumsAndProductsAtTheEdge(t *testing.T) {
	for _, r := range []struct {
		do   func(a, b complex128) (complex128, api.Errno)
		a, b complex128
		want complex128
		e    api.Errno
	}{
		{Add, 2 + 3i, 4 - 5i, 6 - 2i, api.OK},
		{Add, 16777215, 1, 16777216, api.OK},
		{Add, 16777216, 1, 0, api.TrapOver},
		{Add, -16777216i, -1i, 0, api.TrapOver},
		{Add, 5 - 1i, -5 + 1i, 0, api.OK},
		{Sub, 0, 16777216, -16777216, api.OK},
		{Sub, -1i, 16777216i, 0, api.TrapOver},
		{Mul, 2 + 3i, 4 - 5i, 23 + 2i, api.OK},
		{Mul, 4096, 4096, 16777216, api.OK},
		{Mul, 4097, 4097, 0, api.TrapOver},
		{Mul, 1i, 1i, -1, api.OK},
		{Mul, 0, -5 - 5i, 0, api.OK},
		{Mul, -7, 3i, -21i, api.OK},
		{Mul, 16777216 + 16777216i, 16777216 - 16777216i, 0, api.TrapOver},
		{Mul, 16777216 + 1i, 16777216 + 1i, 0, api.TrapOver},
	} {
		if z, e := r.do(r.a, r.b); e != r.e || !same(z, r.want) {
			t.Errorf("of %v, %v: %v, %d; not %v, %d", r.a, r.b, z, e, r.want, r.e)
		}
	}
}

// The other operand would trap, or divide nothing: ErrShape is named first.
func TestOperandsThatAreNoNumbers(t *testing.T) {
	for _, bad := range noNumbers() {
		for _, good := range []complex128{0, 1, -3 + 2i, api.Most, bad} {
			for _, o := range operations() {
				for _, p := range [][2]complex128{{bad, good}, {good, bad}} {
					if z, e := o.do(p[0], p[1]); e != api.ErrShape || !same(z, 0) {
						t.Errorf("%s(%v, %v): %v, %d", o.name, p[0], p[1], z, e)
					}
				}
			}
		}
	}
}

// P1.3

func TestQuotients(t *testing.T) {
	for _, r := range []struct {
		a, b complex128
		want complex128
		e    api.Errno
	}{
		{23 + 2i, 4 - 5i, 2 + 3i, api.OK},
		{5, 1 + 2i, 1 - 2i, api.OK},
		{-3i, 3i, -1, api.OK},
		{16777216 + 16777216i, 1 + 1i, 16777216, api.OK},
		{16777216 + 16777216i, 1 - 1i, 16777216i, api.OK},
		{-16777216 - 16777216i, 1 + 1i, -16777216, api.OK},
		{16777216, -1i, 16777216i, api.OK},
		{-16777216, 1, -16777216, api.OK},
		{16777216 - 16777216i, -1i, 16777216 + 16777216i, api.OK},
		{16777216 + 16777215i, 16777216 + 16777215i, 1, api.OK},
		{0, -7, 0, api.OK},
		{0, -7 - 1i, 0, api.OK},
		{7, -7i, 1i, api.OK},
		{1, 2, 0, api.TrapDiv},
		{-1, 2, 0, api.TrapDiv},
		{2 + 1i, 2, 0, api.TrapDiv},
		{1 + 2i, 2, 0, api.TrapDiv},
		{1, 1 + 1i, 0, api.TrapDiv},
		{3, 1 + 2i, 0, api.TrapDiv},
		{16777215, 16777216, 0, api.TrapDiv},
		{16777216 + 16777215i, 16777216 - 16777215i, 0, api.TrapDiv},
		{0, 0, 0, api.TrapDiv},
		{5 + 1i, 0, 0, api.TrapDiv},
		{api.Most, 0, 0, api.TrapDiv},
	} {
		if z, e := Quo(r.a, r.b); e != r.e || !same(z, r.want) {
			t.Errorf("Quo(%v, %v): %v, %d; not %v, %d", r.a, r.b, z, e, r.want, r.e)
		}
	}
}

// divides looks for the quotient by trying all numbers that are small enough to be it.
func divides(a, b [2]int64, most int64) (int64, int64, bool) {
	for x := -most; x <= most; x++ {
		for y := -most; y <= most; y++ {
			if x*b[0]-y*b[1] == a[0] && x*b[1]+y*b[0] == a[1] {
				return x, y, b[0] != 0 || b[1] != 0
			}
		}
	}
	return 0, 0, false
}

func small(most int64) [][2]int64 {
	var all [][2]int64
	for x := -most; x <= most; x++ {
		for y := -most; y <= most; y++ {
			all = append(all, [2]int64{x, y})
		}
	}
	return all
}

func TestQuotientsByTheDefinition(t *testing.T) {
	for _, p := range small(6) {
		for _, q := range small(4) {
			x, y, ok := divides(p, q, 8)
			want, why := number(x, y), api.OK
			if !ok {
				want, why = 0, api.TrapDiv
			}
			if z, e := Quo(number(p[0], p[1]), number(q[0], q[1])); e != why || !same(z, want) {
				t.Errorf("Quo(%v, %v): %v, %d; not %v, %d", p, q, z, e, want, why)
			}
		}
	}
}

// No number has a quotient above Most: |a/b| is at most |a|, and only a unit leaves it as great.
func TestQuotientsOfTheGreatest(t *testing.T) {
	for _, p := range numbers() {
		for _, q := range small(3) {
			z, e := Quo(number(p[0], p[1]), number(q[0], q[1]))
			if e != api.OK && e != api.TrapDiv || e != api.OK && !same(z, 0) || !Valid(z) {
				t.Errorf("Quo(%v, %v): %v, %d", p, q, z, e)
			}
		}
	}
}

// P1.4

func TestConj(t *testing.T) {
	for _, p := range numbers() {
		if z, e := Conj(number(p[0], p[1])); e != api.OK || !same(z, number(p[0], -p[1])) {
			t.Errorf("Conj(%v): %v, %d", p, z, e)
		}
	}
	for _, bad := range noNumbers() {
		if z, e := Conj(bad); e != api.ErrShape || !same(z, 0) {
			t.Errorf("Conj(%v): %v, %d", bad, z, e)
		}
	}
}

func TestLess(t *testing.T) {
	for _, p := range numbers() {
		for _, q := range numbers() {
			want := p[0] < q[0] || p[0] == q[0] && p[1] < q[1]
			if is, e := Less(number(p[0], p[1]), number(q[0], q[1])); is != want || e != api.OK {
				t.Errorf("Less(%v, %v): %v, %d", p, q, is, e)
			}
		}
	}
	for _, bad := range noNumbers() {
		for _, p := range [][2]complex128{{bad, api.Most}, {-api.Most, bad}, {bad, bad}} {
			if is, e := Less(p[0], p[1]); is || e != api.ErrShape {
				t.Errorf("Less(%v, %v): %v, %d", p[0], p[1], is, e)
			}
		}
	}
}
