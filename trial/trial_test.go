package trial

import (
	"math/rand"
	"reflect"
	"strings"
	"testing"

	"fathom/api"
	"fathom/lang"
	"fathom/types"
)

var wide = api.Limits{Text: api.MaxWide, Funcs: 1 << 15, Arity: 1 << 15, Nest: 1 << 15}

func TestDrawnProgramsAreSound(t *testing.T) {
	all := ""
	for seed := range int64(1000) {
		text := Program(rand.New(rand.NewSource(seed)).Intn, 40)
		p, fault := lang.Parse([]byte(text), wide)
		if fault != (api.Fault{}) || types.Check(p) != (api.Fault{}) {
			t.Fatalf("%s: %v, %v", text, fault, types.Check(p))
		}
		if again := Program(rand.New(rand.NewSource(seed)).Intn, 40); again != text {
			t.Fatalf("%s: %s of the same numbers", text, again)
		}
		all += text
	}
	for _, part := range []string{"+", "-", "*", "/", "==", "<", "not(", "re(", "im(", "conj(", ":", "let ", "strict ", "case ", "if ", "fail ", "nil", "true", "false", "2i", "f0(", "x1("} {
		if strings.Count(all, part) < 100 {
			t.Errorf("%q is hardly drawn", part)
		}
	}
}

func TestRoom(t *testing.T) {
	p, fault := lang.Parse([]byte("f(x N,l L):N=if x==1 then f(2,l) else g();g():N=3;"), wide)
	if fault != (api.Fault{}) {
		t.Fatal(fault)
	}
	roomy := RoomyProgram(p)
	if !reflect.DeepEqual(WholeProgram(roomy), WholeProgram(RoomyProgram(p))) || len(roomy.Funcs) != 2 || cap(roomy.Funcs) < 4 || len(roomy.Funcs[0].Params) != 2 {
		t.Error(roomy)
	}
	before := WholeProgram(roomy)
	for _, touch := range []func(){
		func() { roomy.Funcs[:3][2].Name = "" },
		func() { roomy.Funcs[0].Params[:3][2].Name = "" },
		func() { roomy.Funcs[1].Params[:1][0].Name = "" },
		func() { roomy.Funcs[0].Body.Args[0].Args[:3][2].Name = "" },
		func() { roomy.Funcs[1].Body.Args[:2][1].Name = "" },
	} {
		touch()
		now := WholeProgram(roomy)
		if reflect.DeepEqual(now, before) {
			t.Error("spare room is touched, and it isn't seen")
		}
		before = now
	}
}
