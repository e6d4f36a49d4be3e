package prim

import (
	"math"
	"testing"

	"fathom/api"
	"fathom/gauss"
	"fathom/value"
)

func num(z complex128) api.Value { return api.Value{Type: api.TypeN, Num: z} }

func yes(is bool) api.Value { return api.Value{Type: api.TypeB, Bool: is} }

func list(elements ...complex128) api.Value { return api.Value{Type: api.TypeL, List: elements} }

func sameBits(a, b complex128) bool {
	return math.Float64bits(real(a)) == math.Float64bits(real(b)) && math.Float64bits(imag(a)) == math.Float64bits(imag(b))
}

// identical compares all fields, also those that the type doesn't name, and tells -0 from +0. No answer has a list.
func identical(a, b api.Value) bool {
	return a.Type == b.Type && sameBits(a.Num, b.Num) && a.Bool == b.Bool && len(a.List) == 0 && len(b.List) == 0
}

func expect(t *testing.T, op api.Op, args []api.Value, want api.Value, why api.Errno) {
	t.Helper()
	if v, e := Apply(op, args); !identical(v, want) || e != why {
		t.Errorf("Apply(%d, %v): %v, %d; not %v, %d", op, args, v, e, want, why)
	}
}

// expectNumber expects what layer 1 has answered: a number, or a trap and nothing beside it.
func expectNumber(t *testing.T, op api.Op, args []api.Value, z complex128, why api.Errno) {
	t.Helper()
	if why != api.OK {
		expect(t, op, args, api.Value{}, why)
		return
	}
	expect(t, op, args, num(z), api.OK)
}

// numbers are all those with both parts among some near 0 and near the greatest ones.
func numbers() []complex128 {
	parts := []float64{-api.Most, -api.Most + 1, -4097, -4096, -3, -1, 0, 1, 2, 3, 4096, 4097, api.Most / 2, api.Most - 1, api.Most}
	var all []complex128
	for _, x := range parts {
		for _, y := range parts {
			all = append(all, complex(x, y))
		}
	}
	return all
}

// operations are the ten of the document, counted out here.
func operations() []api.Op { return []api.Op{8, 9, 10, 11, 12, 13, 14, 15, 16, 17} }

func noOperations() []api.Op {
	all := []api.Op{math.MinInt, math.MinInt32, -8, -1, math.MaxInt32, math.MaxInt, 1<<8 + api.OpAdd, 1<<16 + api.OpNot, 1<<32 + api.OpConj}
	for op := api.Op(0); op < 8; op++ {
		all = append(all, op)
	}
	for op := api.Op(18); op < 300; op++ {
		if op != 1<<8+api.OpAdd {
			all = append(all, op)
		}
	}
	return all
}

// P10.1

func TestTakes(t *testing.T) {
	for _, r := range []struct {
		op    api.Op
		count int
		kind  api.Type
	}{
		{api.OpAdd, 2, api.TypeN}, {api.OpSub, 2, api.TypeN}, {api.OpMul, 2, api.TypeN}, {api.OpQuo, 2, api.TypeN},
		{api.OpEq, 2, api.TypeN}, {api.OpLess, 2, api.TypeN}, {api.OpNot, 1, api.TypeB},
		{api.OpRe, 1, api.TypeN}, {api.OpIm, 1, api.TypeN}, {api.OpConj, 1, api.TypeN},
	} {
		if count, kind := Takes(r.op); count != r.count || kind != r.kind {
			t.Errorf("Takes(%d): %d, %d", r.op, count, kind)
		}
	}
}

func TestTakesOfNoOperation(t *testing.T) {
	for _, op := range noOperations() {
		if count, kind := Takes(op); count != 0 || kind != 0 {
			t.Errorf("Takes(%d): %d, %d", op, count, kind)
		}
	}
}

// P10.2

func TestExamples(t *testing.T) {
	for _, r := range []struct {
		op   api.Op
		args string
		want string
		why  api.Errno
	}{
		{api.OpSub, "2+1i 3i", "2-2i", api.OK},
		{api.OpQuo, "7 2", "", api.TrapDiv},
		{api.OpMul, "16777216 2", "", api.TrapOver},
		{api.OpQuo, "6 -2i", "3i", api.OK},
		{api.OpEq, "2 2", "true", api.OK},
		{api.OpLess, "1 1i", "false", api.OK},
		{api.OpNot, "true", "false", api.OK},
		{api.OpNot, "false", "true", api.OK},
		{api.OpRe, "2-3i", "2", api.OK},
		{api.OpIm, "2-3i", "-3", api.OK},
		{api.OpConj, "2-3i", "2+3i", api.OK},
		{api.OpAdd, "2-3i -2+3i", "0", api.OK},
		{api.OpSub, "-16777216 1", "", api.TrapOver},
		{api.OpAdd, "16777216i 1i", "", api.TrapOver},
		{api.OpMul, "2+3i 4-5i", "23+2i", api.OK},
		{api.OpQuo, "23+2i 4-5i", "2+3i", api.OK},
		{api.OpQuo, "0 0", "", api.TrapDiv},
		{api.OpQuo, "16777216+16777216i 1-1i", "16777216i", api.OK},
		{api.OpQuo, "16777216+16777215i 1+1i", "", api.TrapDiv},
		{api.OpEq, "2+1i 2", "false", api.OK},
		{api.OpEq, "1 1i", "false", api.OK},
		{api.OpLess, "1i 1", "true", api.OK},
		{api.OpLess, "2 2+1i", "true", api.OK},
		{api.OpLess, "2 2", "false", api.OK},
		{api.OpRe, "3i", "0", api.OK},
		{api.OpIm, "3", "0", api.OK},
		{api.OpConj, "5", "5", api.OK},
		{api.OpAdd, "1", "", api.ErrShape},
		{api.OpAdd, "1 true", "", api.ErrShape},
		{api.OpNot, "1", "", api.ErrShape},
	} {
		args, e := value.Split(r.args)
		if e != api.OK {
			t.Fatalf("Split(%q): %d", r.args, e)
		}
		v, why := Apply(r.op, args)
		if text, _ := value.Text(v); text != r.want || why != r.why {
			t.Errorf("Apply(%d) of %s: %s, %d; not %s, %d", r.op, r.args, text, why, r.want, r.why)
		}
	}
	expect(t, api.OpAdd, []api.Value{num(0.5), num(1)}, api.Value{}, api.ErrShape)
}

func TestOfTwoNumbers(t *testing.T) {
	all := numbers()
	for _, a := range all {
		for _, b := range all {
			args := []api.Value{num(a), num(b)}
			sum, why := gauss.Add(a, b)
			expectNumber(t, api.OpAdd, args, sum, why)
			difference, why := gauss.Sub(a, b)
			expectNumber(t, api.OpSub, args, difference, why)
			product, why := gauss.Mul(a, b)
			expectNumber(t, api.OpMul, args, product, why)
			quotient, why := gauss.Quo(a, b)
			expectNumber(t, api.OpQuo, args, quotient, why)
			less, why := gauss.Less(a, b)
			expect(t, api.OpLess, args, yes(less), why)
			expect(t, api.OpEq, args, yes(sameBits(a, b)), api.OK)
		}
	}
}

func TestOfOneNumber(t *testing.T) {
	for _, z := range numbers() {
		x, y, _ := gauss.Parts(z)
		re, _ := gauss.Make(x, 0)
		im, _ := gauss.Make(y, 0)
		conj, _ := gauss.Make(x, -y)
		expect(t, api.OpRe, []api.Value{num(z)}, num(re), api.OK)
		expect(t, api.OpIm, []api.Value{num(z)}, num(im), api.OK)
		expect(t, api.OpConj, []api.Value{num(z)}, num(conj), api.OK)
	}
}

func TestOfOneBool(t *testing.T) {
	expect(t, api.OpNot, []api.Value{yes(true)}, yes(false), api.OK)
	expect(t, api.OpNot, []api.Value{yes(false)}, yes(true), api.OK)
}

// What is no operation fits nothing, not even no value at all.
func TestApplyOfNoOperation(t *testing.T) {
	for _, op := range noOperations() {
		for _, args := range [][]api.Value{
			nil, {}, {num(1)}, {yes(true)}, {list()}, {num(1), num(2)}, {num(1), list()}, {yes(true), num(1), num(2)}, {{}}, {{}, {}},
		} {
			expect(t, op, args, api.Value{}, api.ErrShape)
		}
	}
}

// fitting are values that an operation takes, as many as it takes.
func fitting(op api.Op) []api.Value {
	switch {
	case op < api.OpNot:
		return []api.Value{num(6), num(2)}
	case op == api.OpNot:
		return []api.Value{yes(true)}
	}
	return []api.Value{num(6)}
}

func TestTooManyOrTooFew(t *testing.T) {
	for _, op := range operations() {
		good := fitting(op)
		if _, e := Apply(op, good); e != api.OK {
			t.Errorf("Apply(%d, %v): %d", op, good, e)
		}
		for count := range 6 {
			var args []api.Value
			for range count {
				args = append(args, good[0])
			}
			if count != len(good) {
				expect(t, op, args, api.Value{}, api.ErrShape)
			}
		}
	}
}

// misfits are no values of this type: of another one, or no values at all.
func misfits(kind api.Type) []api.Value {
	all := []api.Value{{}, {Type: 4}, {Type: -1}, {Num: 1}, {Bool: true}, list(), list(1), list(0.5), {Type: 1<<32 + kind}}
	if kind != api.TypeN {
		all = append(all, num(0), num(1))
	}
	if kind != api.TypeB {
		all = append(all, yes(false), yes(true))
	}
	all = append(all, api.Value{Type: api.TypeN, Bool: true}, api.Value{Type: api.TypeN, List: []complex128{0}},
		api.Value{Type: api.TypeB, Num: 1}, api.Value{Type: api.TypeB, List: []complex128{0}})
	for _, x := range []float64{
		math.NaN(), math.Inf(1), math.Inf(-1), 0.5, -0.5, api.Most + 1, -api.Most - 1, math.MaxFloat64, math.Copysign(0, -1),
	} {
		for _, z := range []complex128{complex(x, 0), complex(0, x), complex(x, x)} {
			all = append(all, num(z), api.Value{Type: api.TypeB, Num: z})
		}
	}
	return all
}

func TestArgumentsThatDoNotFit(t *testing.T) {
	for _, op := range operations() {
		_, kind := Takes(op)
		for _, bad := range misfits(kind) {
			for i := range fitting(op) {
				args := fitting(op)
				args[i] = bad
				expect(t, op, args, api.Value{}, api.ErrShape)
			}
		}
	}
}

// That the arguments don't fit is told ahead of the trap that a number among them would lead to.
func TestShapeComesAheadOfTraps(t *testing.T) {
	for _, args := range [][]api.Value{
		{num(0.5), num(0)}, {num(complex(math.Inf(1), 0)), num(api.Most)}, {num(api.Most), num(api.Most), num(api.Most)}, {yes(true), num(0)}, {num(0)},
	} {
		for op := api.OpAdd; op <= api.OpLess; op++ {
			expect(t, op, args, api.Value{}, api.ErrShape)
		}
	}
}

// nil and a list without elements are one, whatever its spare room holds.
func TestNoElements(t *testing.T) {
	for _, none := range [][]complex128{nil, {}, make([]complex128, 0, 4), []complex128{0.5, 1}[:0]} {
		number, is := num(2+3i), yes(true)
		number.List, is.List = none, none
		expect(t, api.OpAdd, []api.Value{number, number}, num(4+6i), api.OK)
		expect(t, api.OpEq, []api.Value{number, num(2 + 3i)}, yes(true), api.OK)
		expect(t, api.OpIm, []api.Value{number}, num(3), api.OK)
		expect(t, api.OpNot, []api.Value{is}, yes(false), api.OK)
	}
}
