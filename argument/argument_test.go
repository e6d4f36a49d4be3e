package argument

import (
	"math"
	"slices"
	"testing"

	"fathom/api"
)

func numbers(z ...complex128) api.Value { return api.Value{Type: api.TypeL, List: z} }

func kinds() []api.ArgKind {
	return []api.ArgKind{api.ArgValue, api.ArgPoison, api.ArgTorn, api.ArgHole, -1, 4, 5, math.MinInt, math.MaxInt, 1 << 32}
}

func holes() []int { return []int{0, 1, 2, 3, -1, -2, math.MinInt, math.MaxInt, -1 << 32} }

// sound are values, some of each type.
func sound() []api.Value {
	return []api.Value{
		{Type: api.TypeN}, {Type: api.TypeN, Num: 3 - 2i}, {Type: api.TypeN, Num: api.Most}, {Type: api.TypeN, Num: -3, List: []complex128{}},
		{Type: api.TypeB}, {Type: api.TypeB, Bool: true},
		numbers(), {Type: api.TypeL, List: []complex128{}}, numbers(1), numbers(1, 2i), numbers(0, -api.Most, 7),
	}
}

func zeros() []api.Value {
	return []api.Value{{}, {List: []complex128{}}, {List: []complex128{0.5, 1}[:0]}}
}

// unsound are neither values nor zero.
func unsound() []api.Value {
	minus := math.Copysign(0, -1)
	all := []api.Value{{Num: 1}, {Num: 1i}, {Bool: true}, {List: []complex128{0}}, {Num: complex(minus, 0)}, {Type: 4}, {Type: -1}, {Type: 1<<32 + api.TypeL}}
	all = append(all, api.Value{Type: api.TypeN, Bool: true}, api.Value{Type: api.TypeN, List: []complex128{0}})
	all = append(all, api.Value{Type: api.TypeB, Num: 1}, api.Value{Type: api.TypeB, List: []complex128{0}})
	all = append(all, api.Value{Type: api.TypeL, Num: 1}, api.Value{Type: api.TypeL, Bool: true}, api.Value{Type: api.TypeL, Num: complex(0, minus)})
	for _, x := range []float64{0.5, api.Most + 1, -api.Most - 1, math.NaN(), math.Inf(1), minus} {
		all = append(all, api.Value{Type: api.TypeN, Num: complex(0, x)}, api.Value{Type: api.TypeN, Num: complex(x, 1)})
		all = append(all, numbers(complex(x, 0)), numbers(1, 2, complex(1, x)))
	}
	return all
}

// Each kind with each value, at each hole, for each type: P14.1's words, asked field by field.
func TestFits(t *testing.T) {
	fitting := 0
	for kind := api.Type(-1); kind < 6; kind++ {
		isType := kind == api.TypeN || kind == api.TypeB || kind == api.TypeL
		for _, k := range kinds() {
			for _, hole := range holes() {
				try := func(v api.Value, want bool) {
					if want {
						fitting++
					}
					if a := (api.Arg{Kind: k, Value: v, Hole: hole}); Fits(kind, a) != want {
						t.Errorf("%v at a parameter of type %d: %t", a, kind, !want)
					}
				}
				for _, v := range sound() {
					isList := kind == api.TypeL && v.Type == api.TypeL
					try(v, k == api.ArgValue && v.Type == kind || k == api.ArgTorn && isList || k == api.ArgHole && isList && hole >= 0 && hole < len(v.List))
				}
				for _, v := range zeros() {
					try(v, k == api.ArgPoison && isType)
				}
				for _, v := range unsound() {
					try(v, false)
				}
			}
		}
	}
	// Values: 4 numbers, 2 bools, 5 lists. Poison: 3 zeros of 3 types. Torn: 5 lists. All at 9 holes. Holes: as many as there are elements.
	if want := 9*(11+9+5) + 1 + 2 + 3; fitting != want {
		t.Errorf("%d fit, not %d", fitting, want)
	}
}

func TestWhatIsHandedInStays(t *testing.T) {
	for _, k := range kinds() {
		for length := range 4 {
			list := []complex128{1, 2i, 3, 0.5, -1}
			a := api.Arg{Kind: k, Value: numbers(list[:length]...), Hole: 1}
			Fits(api.TypeL, a)
			if !slices.Equal(list, []complex128{1, 2i, 3, 0.5, -1}) {
				t.Errorf("%v left %v", a, list)
			}
		}
	}
}
