package gauss

import (
	"testing"

	"fathom/api"
)

// P1.6

// draws are numbers of all sizes, the same ones each time.
func draws(n int) []complex128 {
	seed := uint64(20261116)
	next := func() int64 {
		seed = seed*6364136223846793005 + 1442695040888963407
		size := int64(1) << (seed >> 33 % 25)
		seed = seed*6364136223846793005 + 1442695040888963407
		return int64(seed>>33)%(2*size+1) - size
	}
	var all []complex128
	for range n {
		all = append(all, number(next(), next()))
	}
	return all
}

func TestQuotientTakesProductBack(t *testing.T) {
	tried := 0
	all := draws(700)
	for _, p := range numbers() {
		all = append(all, number(p[0], p[1]))
	}
	for _, a := range all {
		for _, b := range all {
			product, e := Mul(a, b)
			if e != api.OK || b == 0 {
				continue
			}
			tried++
			if z, e := Quo(product, b); e != api.OK || !same(z, a) {
				t.Fatalf("Quo(%v, %v): %v, %d; not %v", product, b, z, e, a)
			}
		}
	}
	if tried < 1000 {
		t.Errorf("only %d pairs had a product", tried)
	}
}

// three takes a do b first, or b do c first.
func three(do func(a, b complex128) (complex128, api.Errno), a, b, c complex128) (complex128, complex128, bool) {
	left, e1 := do(a, b)
	right, e2 := do(b, c)
	if e1 != api.OK || e2 != api.OK {
		return 0, 0, false
	}
	x, e1 := do(left, c)
	y, e2 := do(a, right)
	return x, y, e1 == e2
}

func TestOrderOfSumsAndProducts(t *testing.T) {
	all := draws(60)
	for _, o := range operations() {
		if o.name != "Add" && o.name != "Mul" {
			continue
		}
		tried := 0
		for _, a := range all {
			for _, b := range all {
				x, e := o.do(a, b)
				y, f := o.do(b, a)
				if e != f || !same(x, y) {
					t.Fatalf("%s of %v, %v: %v, %d and %v, %d", o.name, a, b, x, e, y, f)
				}
				for _, c := range all {
					x, y, ok := three(o.do, a, b, c)
					if ok && !same(x, y) {
						t.Fatalf("%s of %v, %v, %v: %v and %v", o.name, a, b, c, x, y)
					}
					if ok && x != 0 {
						tried++
					}
				}
			}
		}
		if tried < 1000 {
			t.Errorf("only %d threes had a %s", tried, o.name)
		}
	}
}

func TestDifferenceTakesSumBack(t *testing.T) {
	all := draws(300)
	for _, a := range all {
		for _, b := range all {
			sum, e := Add(a, b)
			if e != api.OK {
				continue
			}
			if z, e := Sub(sum, b); e != api.OK || !same(z, a) {
				t.Fatalf("Sub(%v, %v): %v, %d; not %v", sum, b, z, e, a)
			}
		}
	}
}

func TestParseTakesTextBack(t *testing.T) {
	all := draws(20000)
	for _, p := range append(numbers(), small(25)...) {
		all = append(all, number(p[0], p[1]))
	}
	for _, a := range all {
		s, e := Text(a)
		if e != api.OK {
			t.Fatalf("Text(%v): %d", a, e)
		}
		if z, e := Parse(s); e != api.OK || !same(z, a) {
			t.Fatalf("Parse(%q): %v, %d; not %v", s, z, e, a)
		}
	}
}

// All four units turn a number round and leave its parts as great: the edge at which sums in between must be exact.
func TestUnits(t *testing.T) {
	for _, p := range numbers() {
		a := number(p[0], p[1])
		for _, r := range []struct{ unit, want complex128 }{
			{1, a}, {-1, number(-p[0], -p[1])}, {1i, number(-p[1], p[0])}, {-1i, number(p[1], -p[0])},
		} {
			if z, e := Mul(a, r.unit); e != api.OK || !same(z, r.want) {
				t.Errorf("Mul(%v, %v): %v, %d", a, r.unit, z, e)
			}
			if z, e := Quo(r.want, r.unit); e != api.OK || !same(z, a) {
				t.Errorf("Quo(%v, %v): %v, %d", r.want, r.unit, z, e)
			}
		}
	}
}
