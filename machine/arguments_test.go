package machine

import (
	"math"
	"testing"

	"fathom/api"
)

// P14.1: arguments

func numbers(z ...complex128) api.Value { return api.Value{Type: api.TypeL, List: z} }

// wants has a function for each way of needing an argument.
const wants = `
n(x N): N = x; b(x B): B = x; l(x L): L = x; none(x L): N = 1;
top(x L): N = case x of nil -> 0 | h : t -> 1;
len(x L): N = case x of nil -> 0 | h : t -> 1 + len(t);
sum(x L): N = case x of nil -> 0 | h : t -> h + sum(t);
second(x L): N = case x of nil -> 0 | h : t -> case t of nil -> 0 | h : t -> h;
`

func TestKindsOfArguments(t *testing.T) {
	c := coreOf(t, wants)
	two, empty := numbers(1, 2i), numbers()
	poison := api.Arg{Kind: api.ArgPoison}
	torn := api.Arg{Kind: api.ArgTorn, Value: two}
	hole := func(at int) api.Arg { return api.Arg{Kind: api.ArgHole, Value: two, Hole: at} }
	for _, r := range []struct {
		name string
		a    api.Arg
		want string
	}{
		{"n", poison, " 54 1 0 0 0"}, {"b", poison, " 54 1 0 0 0"}, {"l", poison, " 54 1 0 0 0"}, {"none", poison, "1 0 2 0 0 0"}, {"top", poison, " 54 2 0 0 0"},
		{"n", api.Arg{Kind: api.ArgPoison, Hole: -7}, " 54 1 0 0 0"}, {"none", api.Arg{Kind: api.ArgPoison, Hole: 99, Value: api.Value{List: []complex128{}}}, "1 0 2 0 0 0"},
		{"l", torn, " 54 5 0 0 0"}, {"none", torn, "1 0 2 0 0 0"}, {"top", torn, "1 0 5 0 0 0"}, {"len", torn, " 54 16 0 0 2"}, {"second", torn, "2i 0 8 0 0 0"}, {"l", api.Arg{Kind: api.ArgTorn, Value: two, Hole: -9}, " 54 5 0 0 0"},
		{"l", api.Arg{Kind: api.ArgTorn, Value: empty}, " 54 1 0 0 0"}, {"none", api.Arg{Kind: api.ArgTorn, Value: empty}, "1 0 2 0 0 0"}, {"top", api.Arg{Kind: api.ArgTorn, Value: empty}, " 54 2 0 0 0"},
		{"l", hole(0), " 54 2 0 0 0"}, {"l", hole(1), " 54 4 0 0 0"}, {"len", hole(0), "2 0 21 0 0 2"}, {"len", hole(1), "2 0 21 0 0 2"}, {"sum", hole(0), " 54 5 0 0 0"}, {"sum", hole(1), " 54 12 0 0 1"},
		{"second", hole(0), "2i 0 8 0 0 0"}, {"second", hole(1), " 54 7 0 0 0"}, {"top", hole(0), "1 0 5 0 0 0"},
		{"l", api.Arg{Value: two, Hole: 5}, "[1 2i] 0 6 0 0 0"}, {"n", api.Arg{Value: api.Value{Type: api.TypeN, Num: 3}, Hole: -1}, "3 0 2 0 0 0"}, {"len", api.Arg{Value: empty}, "0 0 5 0 0 0"},
	} {
		if got := told(Run(c, r.name, []api.Arg{r.a}, 999)); got != r.want {
			t.Errorf("%s %v: %s, not %s", r.name, r.a, got, r.want)
		}
	}
}

// refusedArgs are arguments that fit no parameter of that type.
func refusedArgs(t api.Type) []api.Arg {
	minus := math.Copysign(0, -1)
	one := api.Value{Type: t}
	var all []api.Arg
	for _, kind := range []api.ArgKind{-1, 4, 5, math.MinInt, math.MaxInt, 1 << 32} {
		all = append(all, api.Arg{Kind: kind, Value: one}, api.Arg{Kind: kind})
	}
	odd := []api.Value{
		{}, {Type: 4}, {Type: -1}, {Type: api.TypeN, Num: 0.5}, {Type: api.TypeN, Num: complex(0, minus)}, {Type: api.TypeN, Num: api.Most + 1}, {Type: api.TypeN, Bool: true}, {Type: api.TypeN, List: []complex128{0}},
		{Type: api.TypeB, Num: 1}, {Type: api.TypeB, List: []complex128{0}}, {Type: api.TypeL, Num: 1}, {Type: api.TypeL, Bool: true}, numbers(1, 0.5), numbers(complex(math.NaN(), 0)), numbers(1, complex(minus, 0)), numbers(math.MaxFloat64),
	}
	for _, kind := range []api.ArgKind{api.ArgValue, api.ArgTorn, api.ArgHole} {
		for _, v := range odd {
			all = append(all, api.Arg{Kind: kind, Value: v})
		}
		for other := api.TypeN; other <= api.TypeL; other++ {
			if other != t || t != api.TypeL && kind != api.ArgValue {
				all = append(all, api.Arg{Kind: kind, Value: api.Value{Type: other}})
			}
		}
	}
	for _, hole := range []int{-1, 2, 3, math.MinInt, math.MaxInt, -1 << 32} {
		all = append(all, api.Arg{Kind: api.ArgHole, Value: numbers(1, 2), Hole: hole})
	}
	all = append(all, api.Arg{Kind: api.ArgHole, Value: numbers()})
	for _, v := range append(odd[1:], api.Value{Num: 1}, api.Value{Num: 1i}, api.Value{Num: complex(minus, 0)}, api.Value{Bool: true}, api.Value{List: []complex128{0}}, one) {
		all = append(all, api.Arg{Kind: api.ArgPoison, Value: v})
	}
	return all
}

// One that doesn't fit is refused wherever it stands, whether it would be needed or not, and whatever the fuel is.
func TestRefusedArguments(t *testing.T) {
	for kind, letter := range []string{"", "N", "B", "L"} {
		if kind == 0 {
			continue
		}
		c := coreOf(t, "f(a "+letter+", b "+letter+", c "+letter+"): "+letter+" = a; g(a "+letter+"): N = 1;")
		good := api.Arg{Value: api.Value{Type: api.Type(kind)}}
		for _, bad := range refusedArgs(api.Type(kind)) {
			for at := range 3 {
				args := []api.Arg{good, good, good}
				args[at] = bad
				for _, fuel := range []int{-1, 0, 99} {
					if got := Run(c, "f", args, fuel); !same(got, api.Result{Why: api.ErrArgs}) {
						t.Errorf("%s, %v at %d: %s", letter, bad, at, told(got))
					}
				}
			}
			if got := Run(c, "g", []api.Arg{bad}, 99); !same(got, api.Result{Why: api.ErrArgs}) {
				t.Errorf("%s, %v: %s", letter, bad, told(got))
			}
		}
		for n := range 6 {
			var args []api.Arg
			for range n {
				args = append(args, good)
			}
			if got := Run(c, "f", args, 99); (got.Why == api.OK) != (n == 3) || n != 3 && !same(got, api.Result{Why: api.ErrArgs}) {
				t.Errorf("%d arguments: %s", n, told(got))
			}
		}
	}
}

// Each argument stands apart: the poison of one is not met in another.
func TestArgumentsApart(t *testing.T) {
	c := coreOf(t, "f(a L, b L, c L): L = b;")
	args := []api.Arg{{Kind: api.ArgTorn, Value: numbers(1)}, {Value: numbers(1, 2)}, {Kind: api.ArgHole, Value: numbers(1, 2)}}
	if got := told(Run(c, "f", args, 99)); got != "[1 2] 0 6 0 0 0" {
		t.Error(got)
	}
	shared := numbers(1, 2)
	args = []api.Arg{{Kind: api.ArgHole, Value: shared, Hole: 1}, {Value: shared}, {Kind: api.ArgTorn, Value: shared}}
	if got := told(Run(c, "f", args, 99)); got != "[1 2] 0 6 0 0 0" {
		t.Error(got)
	}
}
