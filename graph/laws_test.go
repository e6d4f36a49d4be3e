package graph

import (
	"math/rand"
	"reflect"
	"slices"
	"testing"

	"fathom/api"
	"fathom/trial"
)

// P8.4

// placesOf is of each function which of the groups it stands in; all that are there must stand in just one.
func placesOf(t *testing.T, groups [][]int, n int) []int {
	t.Helper()
	places := slices.Repeat([]int{-1}, n)
	count := 0
	for k, group := range groups {
		if len(group) == 0 || !slices.IsSorted(group) {
			t.Fatalf("a group %v", group)
		}
		for _, i := range group {
			if i < 0 || i >= n || places[i] >= 0 {
				t.Fatalf("%d stands in %v and elsewhere, or isn't there", i, group)
			}
			places[i] = k
			count++
		}
	}
	if count != n {
		t.Fatalf("%d of %d functions", count, n)
	}
	return places
}

func TestEachGroupBehindWhatItCalls(t *testing.T) {
	source := rand.New(rand.NewSource(83))
	for k := range 300 {
		n := 1 + source.Intn(120)
		p := calling(drawCalls(source, n, 1+k%4))
		calls, _ := Calls(p)
		groups, e := Groups(p)
		if e != api.OK {
			t.Fatal(e)
		}
		places := placesOf(t, groups, n)
		for i, called := range calls {
			for _, j := range called {
				if places[j] > places[i] {
					t.Fatalf("%v: %d calls %d, of a group behind: %v", calls, i, j, groups)
				}
			}
			want := len(groups[places[i]]) > 1 || slices.Contains(called, i)
			if got, e := Again(p, i); e != api.OK || got != want {
				t.Fatalf("%v: again of %d %v, %v", calls, i, got, e)
			}
		}
		expectGroupsByReach(t, p, groups)
	}
}

// expectGroupsByReach expects that of those that a function reaches just those of its group reach it.
func expectGroupsByReach(t *testing.T, p api.Program, groups [][]int) {
	t.Helper()
	reached := make([][]int, len(p.Funcs))
	for i := range reached {
		reached[i], _ = Reach(p, i)
	}
	for _, group := range groups {
		for _, i := range group {
			mutual := slices.DeleteFunc(slices.Clone(reached[i]), func(j int) bool { return !slices.Contains(reached[j], i) })
			if !slices.Equal(mutual, group) {
				t.Fatalf("%d: %v, not %v", i, group, mutual)
			}
		}
	}
}

// What is reached is what is called and what that reaches, and itself.
func TestReachIsOfCalls(t *testing.T) {
	source := rand.New(rand.NewSource(84))
	for range 200 {
		n := 1 + source.Intn(40)
		p := calling(drawCalls(source, n, 4))
		calls, _ := Calls(p)
		for i, called := range calls {
			want := []int{i}
			for _, j := range called {
				more, _ := Reach(p, j)
				want = append(want, more...)
			}
			slices.Sort(want)
			if got, e := Reach(p, i); e != api.OK || !slices.Equal(got, slices.Compact(want)) {
				t.Fatalf("%v: reach of %d %v, %v", calls, i, got, e)
			}
		}
	}
}

// Definitions in another order make the same groups, with the new numbers.
func TestOtherOrder(t *testing.T) {
	source := rand.New(rand.NewSource(85))
	for range 300 {
		n := 1 + source.Intn(30)
		p := calling(drawCalls(source, n, 5))
		var q api.Program
		was := source.Perm(n) // of each new number the old one
		for _, i := range was {
			q.Funcs = append(q.Funcs, p.Funcs[i])
		}
		groups, _ := Groups(p)
		others, e := Groups(q)
		if e != api.OK || len(groups) != len(others) {
			t.Fatalf("%v, %v, %v", groups, others, e)
		}
		old := placesOf(t, groups, n)
		for _, group := range others {
			for _, i := range group {
				if old[was[i]] != old[was[group[0]]] || len(groups[old[was[i]]]) != len(group) {
					t.Fatalf("%v is %v in the order %v", groups, others, was)
				}
			}
		}
	}
}

// Of what is not sound in its shape only this is promised.
func TestOtherShapesEnd(t *testing.T) {
	for op := api.Op(-1); op <= api.OpStrict+2; op++ {
		for n := range 5 {
			e := api.Expr{Op: op, Type: 7, Name: "g", Args: make([]api.Expr, n)}
			e = api.Expr{Op: api.OpMul, Args: []api.Expr{e, e, e}}
			for _, p := range []api.Program{
				{Funcs: []api.Func{{Body: e, Type: -1, Params: []api.Param{{}, {Type: 9}}}, {}, {Body: e}}},
				{Funcs: []api.Func{{Body: e}, {Body: e, Name: "g", Params: make([]api.Param, min(n, 1))}}},
				{Funcs: []api.Func{{Body: e.Args[0], Name: "g"}, {}}},
			} {
				Calls(p)
				Groups(p)
				for i := range 4 {
					Reach(p, i)
					Again(p, i)
				}
			}
		}
	}
}

// P8.5

func TestWhatIsHandedInStays(t *testing.T) {
	source := rand.New(rand.NewSource(86))
	d := drawer{source: source}
	for range 400 {
		p := trial.RoomyProgram(programOf(t, d.program(drawCalls(source, 1+source.Intn(8), 20))))
		before := trial.WholeProgram(p)
		expectByWords(t, p)
		if !reflect.DeepEqual(trial.WholeProgram(p), before) {
			t.Fatalf("%v: no longer %v", trial.WholeProgram(p), before)
		}
	}
	p := trial.RoomyProgram(programOf(t, "f():N=g();"))
	before := trial.WholeProgram(p)
	expectShape(t, p)
	if !reflect.DeepEqual(trial.WholeProgram(p), before) {
		t.Errorf("%v: no longer %v", trial.WholeProgram(p), before)
	}
}

// expectApart overwrites the lists of an answer one by one, spare room and all, and expects that the others stay.
func expectApart(t *testing.T, lists [][]int) {
	t.Helper()
	lists = lists[:cap(lists)]
	var want [][]int
	for _, list := range lists {
		want = append(want, slices.Clone(list[:cap(list)]))
	}
	for k, list := range lists {
		for i := range want[k] {
			list[:cap(list)][i], want[k][i] = -7-k, -7-k
		}
		for j, other := range lists {
			if !slices.Equal(other[:cap(other)], want[j]) {
				t.Fatalf("lists %d and %d share memory", k, j)
			}
		}
	}
}

// Answers that are overwritten change none that come later.
func TestAnswersAreNew(t *testing.T) {
	source := rand.New(rand.NewSource(87))
	for range 100 {
		p := calling(drawCalls(source, 1+source.Intn(20), 10))
		for range 2 {
			expectByWords(t, p)
			calls, _ := Calls(p)
			groups, _ := Groups(p)
			expectApart(t, append(slices.Clone(calls), groups...))
			expectApart(t, calls)
			expectApart(t, groups)
			for i := range p.Funcs {
				one, _ := Reach(p, i)
				other, _ := Reach(p, i)
				expectApart(t, [][]int{one, other})
			}
		}
	}
}

// What is asked hangs on nothing that was asked before.
func TestCallsAreApart(t *testing.T) {
	good := programOf(t, "f(x N):N=g(x);g(y N):N=f(y)+h();h():N=1;")
	for _, text := range []string{"f(x N):N=y;", "f():N=1;f():N=1;", "g():N=f();", "f(x N,x N):N=1;", "h():N=h(1);"} {
		bad := programOf(t, text)
		expectShape(t, bad)
		expectAnswers(t, good, "1;0 2;", "2;0 1")
		expectShape(t, bad)
		expectByWords(t, good)
		expectByWords(t, programOf(t, "h():N=f();g():N=1;f():N=h();"))
	}
}
