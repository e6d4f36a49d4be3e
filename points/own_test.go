package points

import (
	"math"
	"slices"
	"testing"

	"fathom/api"
	"fathom/core"
	"fathom/lang"
	"fathom/machine"
)

// P15.4

func numbers(z ...complex128) api.Value { return api.Value{Type: api.TypeL, List: z} }

func hole(v api.Value, at int) api.Arg { return api.Arg{Kind: api.ArgHole, Value: v, Hole: at} }

func TestOwn(t *testing.T) {
	poison := api.Arg{Kind: api.ArgPoison}
	torn := func(v api.Value) api.Arg { return api.Arg{Kind: api.ArgTorn, Value: v} }
	for _, r := range []struct {
		kind api.Type
		a    api.Arg
		want api.Point
	}{
		{api.TypeN, poison, 0}, {api.TypeB, poison, 0}, {api.TypeL, poison, 0}, {api.TypeL, api.Arg{Kind: api.ArgPoison, Hole: -7}, 0},
		{api.TypeN, api.Arg{Value: api.Value{Type: api.TypeN}}, 1}, {api.TypeN, api.Arg{Value: api.Value{Type: api.TypeN, Num: 3 - 2i}, Hole: 5}, 1},
		{api.TypeB, api.Arg{Value: api.Value{Type: api.TypeB}}, 1}, {api.TypeB, api.Arg{Value: api.Value{Type: api.TypeB, Bool: true}, Hole: -1}, 1},
		{api.TypeL, api.Arg{Value: numbers()}, 3}, {api.TypeL, api.Arg{Value: numbers(1, 2i), Hole: 2}, 3},
		{api.TypeL, torn(numbers()), 1}, {api.TypeL, torn(numbers(1)), 1}, {api.TypeL, api.Arg{Kind: api.ArgTorn, Value: numbers(1, 2i), Hole: -9}, 1},
		{api.TypeL, hole(numbers(1), 0), 2}, {api.TypeL, hole(numbers(1, 2, 3), 0), 2}, {api.TypeL, hole(numbers(1, 2, 3), 2), 2},
	} {
		if p, e := Own(r.kind, r.a); p != r.want || e != api.OK {
			t.Errorf("Own(%d, %v): %d, %v; not %d", r.kind, r.a, p, e, r.want)
		}
	}
}

// args are arguments of all kinds, most of which fit at parameters of one type alone, or of none.
func args() []api.Arg {
	minus := math.Copysign(0, -1)
	values := []api.Value{
		{}, {List: []complex128{}}, {Type: 4}, {Type: -1}, {Num: 1}, {Num: complex(minus, 0)}, {Bool: true}, {List: []complex128{0}},
		{Type: api.TypeN, Num: 2i}, {Type: api.TypeN, Num: 0.5}, {Type: api.TypeN, Num: complex(0, minus)}, {Type: api.TypeN, Num: api.Most + 1}, {Type: api.TypeN, Bool: true}, {Type: api.TypeN, List: []complex128{0}},
		{Type: api.TypeB}, {Type: api.TypeB, Num: 1}, {Type: api.TypeB, List: []complex128{0}},
		numbers(), numbers(1), numbers(1, 2, 3), numbers(1, 0.5), numbers(complex(math.NaN(), 0)), {Type: api.TypeL, Num: 1}, {Type: api.TypeL, Bool: true},
	}
	var all []api.Arg
	for _, kind := range []api.ArgKind{api.ArgValue, api.ArgPoison, api.ArgTorn, api.ArgHole, -1, 4, math.MinInt, math.MaxInt, 1 << 32} {
		for _, at := range []int{0, 1, 2, 3, -1, math.MinInt, math.MaxInt} {
			for _, v := range values {
				all = append(all, api.Arg{Kind: kind, Value: v, Hole: at})
			}
		}
	}
	return all
}

// An argument has no own point just if the machine doesn't take it at a parameter of that type.
func TestOwnOfWhatMayNotStand(t *testing.T) {
	for kind, letter := range []string{api.TypeN: "N", api.TypeB: "B", api.TypeL: "L"} {
		if kind == 0 {
			continue
		}
		p, _ := lang.Parse([]byte("f(x "+letter+"): N = 1;"), api.Limits{Text: 99, Funcs: 1, Arity: 1, Nest: 1})
		c, e := core.Flatten(p)
		if e != api.OK {
			t.Fatal(e)
		}
		taken := 0
		for _, a := range args() {
			runs := machine.Run(c, "f", []api.Arg{a}, 9).Why == api.OK
			p, e := Own(api.Type(kind), a)
			if runs && (e != api.OK || Check(api.Type(kind), p) != api.OK) || !runs && (e != api.ErrArgs || p != 0) {
				t.Errorf("Own(%s, %v): %d, %v; the machine takes it: %t", letter, a, p, e, runs)
			}
			if runs {
				taken++
			}
		}
		if taken < 10 {
			t.Errorf("%s: only %d arguments fit", letter, taken)
		}
	}
}

// That there is no such type is told ahead of what is wrong with the argument.
func TestOwnOfNoType(t *testing.T) {
	for _, kind := range noTypes() {
		for _, a := range args() {
			if p, e := Own(kind, a); p != 0 || e != api.ErrShape {
				t.Errorf("Own(%d, %v): %d, %v", kind, a, p, e)
			}
		}
		if p, e := Own(kind, api.Arg{Value: api.Value{Type: kind}}); p != 0 || e != api.ErrShape {
			t.Errorf("Own(%d, ..): %d, %v", kind, p, e)
		}
	}
}

func TestOwnLeavesItsArgument(t *testing.T) {
	for kind := api.ArgValue; kind <= api.ArgHole; kind++ {
		for length := range 4 {
			list := []complex128{1, 2i, 3, 0.5, -1}
			a := api.Arg{Kind: kind, Value: numbers(list[:length]...), Hole: 1}
			Own(api.TypeL, a)
			if !slices.Equal(list, []complex128{1, 2i, 3, 0.5, -1}) {
				t.Errorf("Own(%v) left %v", a, list)
			}
		}
	}
}
