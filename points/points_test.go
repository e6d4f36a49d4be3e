package points

import (
	"math"
	"testing"

	"fathom/api"
)

// noTypes are none of N, B, L.
func noTypes() []api.Type {
	return []api.Type{0, -1, 4, 5, -3, math.MinInt, math.MaxInt, 1<<32 + api.TypeN, 1<<8 + api.TypeL}
}

// noPoints are points of no type at all.
func noPoints() []api.Point {
	return []api.Point{-1, -2, 4, 5, math.MinInt, math.MaxInt, 1 << 32, 1<<32 + 1, 1<<8 + 3, -1 << 32}
}

// pointsOf are all points of a type, and those of L that aren't.
func pointsOf(t api.Type) (are, not []api.Point) {
	if t == api.TypeL {
		return []api.Point{0, 1, 2, 3}, noPoints()
	}
	return []api.Point{0, 1}, append(noPoints(), 2, 3)
}

// P15.1

func TestTop(t *testing.T) {
	for kind, want := range []api.Point{api.TypeN: 1, api.TypeB: 1, api.TypeL: 3} {
		if kind == 0 {
			continue
		}
		if p, e := Top(api.Type(kind)); p != want || e != api.OK {
			t.Errorf("Top(%d): %d, %v", kind, p, e)
		}
	}
	for _, kind := range noTypes() {
		if p, e := Top(kind); p != 0 || e != api.ErrShape {
			t.Errorf("Top(%d): %d, %v", kind, p, e)
		}
	}
}

func TestCheck(t *testing.T) {
	for kind := api.TypeN; kind <= api.TypeL; kind++ {
		are, not := pointsOf(kind)
		for _, p := range are {
			if e := Check(kind, p); e != api.OK {
				t.Errorf("Check(%d, %d): %v", kind, p, e)
			}
		}
		for _, p := range not {
			if e := Check(kind, p); e != api.ErrRange {
				t.Errorf("Check(%d, %d): %v", kind, p, e)
			}
		}
	}
	for _, kind := range noTypes() {
		for _, p := range append(noPoints(), 0, 1, 2, 3) {
			if e := Check(kind, p); e != api.ErrShape {
				t.Errorf("Check(%d, %d): %v", kind, p, e)
			}
		}
	}
}

// P15.5

func TestWord(t *testing.T) {
	for _, r := range []struct {
		kind  api.Type
		words []string
	}{
		{api.TypeN, []string{"never", "value"}}, {api.TypeB, []string{"never", "value"}}, {api.TypeL, []string{"never", "partial", "holed", "whole"}},
	} {
		for p, want := range r.words {
			if s, e := Word(r.kind, api.Point(p)); s != want || e != api.OK {
				t.Errorf("Word(%d, %d): %q, %v", r.kind, p, s, e)
			}
		}
		_, not := pointsOf(r.kind)
		for _, p := range not {
			if s, e := Word(r.kind, p); s != "" || e != api.ErrRange {
				t.Errorf("Word(%d, %d): %q, %v", r.kind, p, s, e)
			}
		}
	}
	for _, kind := range noTypes() {
		for _, p := range append(noPoints(), 0, 1, 2, 3) {
			if s, e := Word(kind, p); s != "" || e != api.ErrShape {
				t.Errorf("Word(%d, %d): %q, %v", kind, p, s, e)
			}
		}
	}
}
