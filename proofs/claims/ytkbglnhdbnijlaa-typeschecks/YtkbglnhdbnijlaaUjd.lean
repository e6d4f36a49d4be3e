/-
  2 texts in one: what each proves stands at its head.
-/
import Derived.Test.YtkbglnhdbnijlaaUe
import Derived.Test.YtkbglnhdbnijlaaUjc
import Derived.Test.YtkbglnhdbnijlaaUs
import Derived.Test.YtkbglnhdbnijlaaUp
namespace Go.Proofs.Ytkbglnhdbnijlaa
open Go.RowKit
set_option maxRecDepth 100000
def eh0 : Oper := { dst := some 46, op := Op.fieldAddr 31 (Operand.tmp 3) 0, type := 0, pos := "ref.go:152", after := #[], guard := none }
def eh1 : Oper := { dst := some 47, op := Op.load 29 (Operand.tmp 46), type := 29, pos := "ref.go:152", after := #[{ on := 0, ground := Ground.data }], guard := none }
def eh2 : Oper := { dst := some 48, op := Op.binOp BinOp.eql 29 (Operand.tmp 47) (Operand.const (Value.int IntKind.i64 0)) 29, type := 4, pos := "ref.go:152", after := #[{ on := 1, ground := Ground.data }], guard := none }
def eh3 : Oper := { dst := some 49, op := Op.move (Operand.tmp 48), type := 4, pos := "ref.go:152", after := #[{ on := 2, ground := Ground.data }], guard := none }
def eh4 : Oper := { dst := some 50, op := Op.move (Operand.tmp 5), type := 66, pos := "ref.go:152", after := #[{ on := 3, ground := Ground.guard }], guard := some (3, false) }
def eh5 : Oper := { dst := some 51, op := Op.move (Operand.tmp 6), type := 3, pos := "ref.go:152", after := #[{ on := 3, ground := Ground.guard }], guard := some (3, false) }
def eh6 : Oper := { dst := some 52, op := Op.indexAddr 66 (Operand.tmp 50) (Operand.tmp 51), type := 0, pos := "ref.go:152", after := #[{ on := 4, ground := Ground.data }, { on := 5, ground := Ground.data }, { on := 3, ground := Ground.guard }], guard := some (3, false) }
def eh7 : Oper := { dst := some 53, op := Op.load 3 (Operand.tmp 52), type := 3, pos := "ref.go:152", after := #[{ on := 6, ground := Ground.data }, { on := 3, ground := Ground.guard }], guard := some (3, false) }
def eh8 : Oper := { dst := some 54, op := Op.fieldAddr 31 (Operand.tmp 3) 1, type := 0, pos := "ref.go:152", after := #[{ on := 3, ground := Ground.guard }], guard := some (3, false) }
def eh9 : Oper := { dst := some 55, op := Op.load 3 (Operand.tmp 54), type := 3, pos := "ref.go:152", after := #[{ on := 8, ground := Ground.data }, { on := 3, ground := Ground.guard }], guard := some (3, false) }
def eh10 : Oper := { dst := some 56, op := Op.binOp BinOp.lss 3 (Operand.tmp 53) (Operand.tmp 55) 3, type := 4, pos := "ref.go:152", after := #[{ on := 7, ground := Ground.data }, { on := 9, ground := Ground.data }, { on := 3, ground := Ground.guard }], guard := some (3, false) }
def eh11 : Oper := { dst := some 57, op := Op.pick (Operand.tmp 49) (Operand.const (Value.bool true)) (Operand.tmp 56), type := 4, pos := "ref.go:152", after := #[{ on := 3, ground := Ground.data }, { on := 10, ground := Ground.data }], guard := none }
def ehops:Array Oper:=#[eh0,eh1,eh2,eh3,eh4,eh5,eh6,eh7,eh8,eh9,eh10,eh11]
def ehsl (k:Nat):Nat:=46+k
def ehV (b4:Nat) (l1:Int):Nat→Value
 |0=>.pointer (some ⟨b4,0,none⟩)
 |1=>.int .i64 l1
 |2=>.bool true
 |3=>.bool true
 |4=>undef
 |5=>undef
 |6=>undef
 |7=>undef
 |8=>undef
 |9=>undef
 |10=>undef
 |_=>.bool true
section
variable {Q:Exit→Act→World→Prop} {X0 w0:World} {a0:Act}
set_option maxHeartbeats 4000000 in
theorem chk7t {b4 g n cf k:Nat} {l1 l2 f2:Int} (_hk:k<n) (hc:∀ w,Below X0.heap.size X0 w→w.cell? ⟨b4,0,none⟩=some (.int .i64 l1)∧w.cell? ⟨b4,1,none⟩=some (.int .i64 l2)∧w.cell? ⟨g,k,none⟩=some (.int .i64 f2)) (h0:l1=0) (hs:64≤a0.tmps.size)
  (e3:Rv.ev a0 3=.pointer (some ⟨b4,0,none⟩))
  (e5:Rv.ev a0 5=.slice (some ⟨g,0,none⟩) n cf)
  (e6:Rv.ev a0 6=.int .i64 k)
  (hw:Below X0.heap.size X0 w0)
  (hQ:∀ a w,Rv.Off 12 ehsl a0 a→Below X0.heap.size X0 w→(∀ j,j<12→Rv.ev a (ehsl j)=(ehV b4 l1) j)→Q .normal a w) :
  wpAny Try.prog .any ehops Q 12 (Array.replicate 12 false) a0 w0:=by
 refine Rv.region (X0:=X0) 12 ehsl (ehV b4 l1) rfl (by decide) (by decide) (fun j hj=>Nat.lt_of_lt_of_le ((by decide:∀ j,j<12→ehsl j<64) j hj) hs) hw ?_ hQ
 intro i a W hi hO hW hd
 have hev:∀ j,a.eval (.tmp j)=Rv.ev a j:=fun _=>rfl
 have hcn:∀ v,a.eval (.const v)=v:=fun _=>rfl
 have hfn:∀ v,a.eval (.func v)=.func (.func v) #[] #[]:=fun _=>rfl
 have hsz:∀ k,k<64→k<a.tmps.size:=fun k hk=>by rw[hO.size];omega
 have g3:Rv.ev a 3=.pointer (some ⟨b4,0,none⟩):=(hO.same 3 (by decide)).trans e3
 have g5:Rv.ev a 5=.slice (some ⟨g,0,none⟩) n cf:=(hO.same 5 (by decide)).trans e5
 have g6:Rv.ev a 6=.int .i64 k:=(hO.same 6 (by decide)).trans e6
 obtain⟨r0,r1,r2⟩:=hc W hW
 have hz:(l1==0)=true:=by simpa using h0
 have hN:i=0∨i=1∨i=2∨i=3∨i=4∨i=5∨i=6∨i=7∨i=8∨i=9∨i=10∨i=11:=by omega
 rcases hN with rfl|rfl|rfl|rfl|rfl|rfl|rfl|rfl|rfl|rfl|rfl|rfl
 ·exact Rv.run (o:=eh0) rfl rfl (Rv.want_free rfl) (by unfold eh0;simp only[execOp,hev,g3];go_simp<;>rfl) hW
 ·have d46:Rv.ev a 46=.pointer (some ⟨b4,0,none⟩):=hd 0 (by decide)
  exact Rv.run (o:=eh1) rfl rfl (Rv.want_free rfl) (by unfold eh1;simp only[execOp,hev,d46];go_simp<;>rfl) hW
 ·have d47:Rv.ev a 47=.int .i64 l1:=hd 1 (by decide)
  exact Rv.run (o:=eh2) rfl rfl (Rv.want_free rfl) (by unfold eh2;simp only[execOp,hev,hcn,d47];go_simp<;>rfl) hW
 ·have d48:Rv.ev a 48=.bool true:=hd 2 (by decide)
  exact Rv.run (o:=eh3) rfl rfl (Rv.want_free rfl) (by unfold eh3;simp only[execOp,hev,d48];rfl) hW
 ·have dg:Rv.ev a 49=.bool true:=hd 3 (by decide)
  exact Rv.skip (o:=eh4) rfl rfl (by rw[Rv.want_if (o':=eh3) rfl rfl rfl (hsz 49 (by decide)) dg];first|rfl|simp) hW
 ·have dg:Rv.ev a 49=.bool true:=hd 3 (by decide)
  exact Rv.skip (o:=eh5) rfl rfl (by rw[Rv.want_if (o':=eh3) rfl rfl rfl (hsz 49 (by decide)) dg];first|rfl|simp) hW
 ·have d50:Rv.ev a 50=undef:=hd 4 (by decide)
  have d51:Rv.ev a 51=undef:=hd 5 (by decide)
  have dg:Rv.ev a 49=.bool true:=hd 3 (by decide)
  exact Rv.skip (o:=eh6) rfl rfl (by rw[Rv.want_if (o':=eh3) rfl rfl rfl (hsz 49 (by decide)) dg];first|rfl|simp) hW
 ·have d52:Rv.ev a 52=undef:=hd 6 (by decide)
  have dg:Rv.ev a 49=.bool true:=hd 3 (by decide)
  exact Rv.skip (o:=eh7) rfl rfl (by rw[Rv.want_if (o':=eh3) rfl rfl rfl (hsz 49 (by decide)) dg];first|rfl|simp) hW
 ·have dg:Rv.ev a 49=.bool true:=hd 3 (by decide)
  exact Rv.skip (o:=eh8) rfl rfl (by rw[Rv.want_if (o':=eh3) rfl rfl rfl (hsz 49 (by decide)) dg];first|rfl|simp) hW
 ·have d54:Rv.ev a 54=undef:=hd 8 (by decide)
  have dg:Rv.ev a 49=.bool true:=hd 3 (by decide)
  exact Rv.skip (o:=eh9) rfl rfl (by rw[Rv.want_if (o':=eh3) rfl rfl rfl (hsz 49 (by decide)) dg];first|rfl|simp) hW
 ·have d53:Rv.ev a 53=undef:=hd 7 (by decide)
  have d55:Rv.ev a 55=undef:=hd 9 (by decide)
  have dg:Rv.ev a 49=.bool true:=hd 3 (by decide)
  exact Rv.skip (o:=eh10) rfl rfl (by rw[Rv.want_if (o':=eh3) rfl rfl rfl (hsz 49 (by decide)) dg];first|rfl|simp) hW
 ·have d49:Rv.ev a 49=.bool true:=hd 3 (by decide)
  have d56:Rv.ev a 56=undef:=hd 10 (by decide)
  exact Rv.run (o:=eh11) rfl rfl (Rv.want_free rfl) (by unfold eh11;simp only[execOp,hev,hcn,d49,d56];go_simp<;>rfl) hW
end
def ei0 : Oper := { dst := some 46, op := Op.fieldAddr 31 (Operand.tmp 3) 0, type := 0, pos := "ref.go:152", after := #[], guard := none }
def ei1 : Oper := { dst := some 47, op := Op.load 29 (Operand.tmp 46), type := 29, pos := "ref.go:152", after := #[{ on := 0, ground := Ground.data }], guard := none }
def ei2 : Oper := { dst := some 48, op := Op.binOp BinOp.eql 29 (Operand.tmp 47) (Operand.const (Value.int IntKind.i64 0)) 29, type := 4, pos := "ref.go:152", after := #[{ on := 1, ground := Ground.data }], guard := none }
def ei3 : Oper := { dst := some 49, op := Op.move (Operand.tmp 48), type := 4, pos := "ref.go:152", after := #[{ on := 2, ground := Ground.data }], guard := none }
def ei4 : Oper := { dst := some 50, op := Op.move (Operand.tmp 5), type := 66, pos := "ref.go:152", after := #[{ on := 3, ground := Ground.guard }], guard := some (3, false) }
def ei5 : Oper := { dst := some 51, op := Op.move (Operand.tmp 6), type := 3, pos := "ref.go:152", after := #[{ on := 3, ground := Ground.guard }], guard := some (3, false) }
def ei6 : Oper := { dst := some 52, op := Op.indexAddr 66 (Operand.tmp 50) (Operand.tmp 51), type := 0, pos := "ref.go:152", after := #[{ on := 4, ground := Ground.data }, { on := 5, ground := Ground.data }, { on := 3, ground := Ground.guard }], guard := some (3, false) }
def ei7 : Oper := { dst := some 53, op := Op.load 3 (Operand.tmp 52), type := 3, pos := "ref.go:152", after := #[{ on := 6, ground := Ground.data }, { on := 3, ground := Ground.guard }], guard := some (3, false) }
def ei8 : Oper := { dst := some 54, op := Op.fieldAddr 31 (Operand.tmp 3) 1, type := 0, pos := "ref.go:152", after := #[{ on := 3, ground := Ground.guard }], guard := some (3, false) }
def ei9 : Oper := { dst := some 55, op := Op.load 3 (Operand.tmp 54), type := 3, pos := "ref.go:152", after := #[{ on := 8, ground := Ground.data }, { on := 3, ground := Ground.guard }], guard := some (3, false) }
def ei10 : Oper := { dst := some 56, op := Op.binOp BinOp.lss 3 (Operand.tmp 53) (Operand.tmp 55) 3, type := 4, pos := "ref.go:152", after := #[{ on := 7, ground := Ground.data }, { on := 9, ground := Ground.data }, { on := 3, ground := Ground.guard }], guard := some (3, false) }
def ei11 : Oper := { dst := some 57, op := Op.pick (Operand.tmp 49) (Operand.const (Value.bool true)) (Operand.tmp 56), type := 4, pos := "ref.go:152", after := #[{ on := 3, ground := Ground.data }, { on := 10, ground := Ground.data }], guard := none }
def eiops:Array Oper:=#[ei0,ei1,ei2,ei3,ei4,ei5,ei6,ei7,ei8,ei9,ei10,ei11]
def eisl (k:Nat):Nat:=46+k
def eiV (b4 g n cf k:Nat) (l1 l2 f2:Int):Nat→Value
 |0=>.pointer (some ⟨b4,0,none⟩)
 |1=>.int .i64 l1
 |2=>.bool false
 |3=>.bool false
 |4=>.slice (some ⟨g,0,none⟩) n cf
 |5=>.int .i64 k
 |6=>.pointer (some ⟨g,k,none⟩)
 |7=>.int .i64 f2
 |8=>.pointer (some ⟨b4,1,none⟩)
 |9=>.int .i64 l2
 |10=>.bool (decide (f2<l2))
 |_=>.bool (decide (f2<l2))
section
variable {Q:Exit→Act→World→Prop} {X0 w0:World} {a0:Act}
set_option maxHeartbeats 4000000 in
theorem chk7f {b4 g n cf k:Nat} {l1 l2 f2:Int} (hk:k<n) (hc:∀ w,Below X0.heap.size X0 w→w.cell? ⟨b4,0,none⟩=some (.int .i64 l1)∧w.cell? ⟨b4,1,none⟩=some (.int .i64 l2)∧w.cell? ⟨g,k,none⟩=some (.int .i64 f2)) (h0:¬ l1=0) (hs:64≤a0.tmps.size)
  (e3:Rv.ev a0 3=.pointer (some ⟨b4,0,none⟩))
  (e5:Rv.ev a0 5=.slice (some ⟨g,0,none⟩) n cf)
  (e6:Rv.ev a0 6=.int .i64 k)
  (hw:Below X0.heap.size X0 w0)
  (hQ:∀ a w,Rv.Off 12 eisl a0 a→Below X0.heap.size X0 w→(∀ j,j<12→Rv.ev a (eisl j)=(eiV b4 g n cf k l1 l2 f2) j)→Q .normal a w) :
  wpAny Try.prog .any eiops Q 12 (Array.replicate 12 false) a0 w0:=by
 refine Rv.region (X0:=X0) 12 eisl (eiV b4 g n cf k l1 l2 f2) rfl (by decide) (by decide) (fun j hj=>Nat.lt_of_lt_of_le ((by decide:∀ j,j<12→eisl j<64) j hj) hs) hw ?_ hQ
 intro i a W hi hO hW hd
 have hev:∀ j,a.eval (.tmp j)=Rv.ev a j:=fun _=>rfl
 have hcn:∀ v,a.eval (.const v)=v:=fun _=>rfl
 have hfn:∀ v,a.eval (.func v)=.func (.func v) #[] #[]:=fun _=>rfl
 have hsz:∀ k,k<64→k<a.tmps.size:=fun k hk=>by rw[hO.size];omega
 have g3:Rv.ev a 3=.pointer (some ⟨b4,0,none⟩):=(hO.same 3 (by decide)).trans e3
 have g5:Rv.ev a 5=.slice (some ⟨g,0,none⟩) n cf:=(hO.same 5 (by decide)).trans e5
 have g6:Rv.ev a 6=.int .i64 k:=(hO.same 6 (by decide)).trans e6
 obtain⟨r0,r1,r2⟩:=hc W hW
 have hz:(l1==0)=false:=by simpa using h0
 have hN:i=0∨i=1∨i=2∨i=3∨i=4∨i=5∨i=6∨i=7∨i=8∨i=9∨i=10∨i=11:=by omega
 rcases hN with rfl|rfl|rfl|rfl|rfl|rfl|rfl|rfl|rfl|rfl|rfl|rfl
 ·exact Rv.run (o:=ei0) rfl rfl (Rv.want_free rfl) (by unfold ei0;simp only[execOp,hev,g3];go_simp<;>rfl) hW
 ·have d46:Rv.ev a 46=.pointer (some ⟨b4,0,none⟩):=hd 0 (by decide)
  exact Rv.run (o:=ei1) rfl rfl (Rv.want_free rfl) (by unfold ei1;simp only[execOp,hev,d46];go_simp<;>rfl) hW
 ·have d47:Rv.ev a 47=.int .i64 l1:=hd 1 (by decide)
  exact Rv.run (o:=ei2) rfl rfl (Rv.want_free rfl) (by unfold ei2;simp only[execOp,hev,hcn,d47];go_simp<;>rfl) hW
 ·have d48:Rv.ev a 48=.bool false:=hd 2 (by decide)
  exact Rv.run (o:=ei3) rfl rfl (Rv.want_free rfl) (by unfold ei3;simp only[execOp,hev,d48];rfl) hW
 ·have dg:Rv.ev a 49=.bool false:=hd 3 (by decide)
  exact Rv.run (o:=ei4) rfl rfl (by rw[Rv.want_if (o':=ei3) rfl rfl rfl (hsz 49 (by decide)) dg];first|rfl|simp) (by unfold ei4;simp only[execOp,hev,g5];rfl) hW
 ·have dg:Rv.ev a 49=.bool false:=hd 3 (by decide)
  exact Rv.run (o:=ei5) rfl rfl (by rw[Rv.want_if (o':=ei3) rfl rfl rfl (hsz 49 (by decide)) dg];first|rfl|simp) (by unfold ei5;simp only[execOp,hev,g6];rfl) hW
 ·have d50:Rv.ev a 50=.slice (some ⟨g,0,none⟩) n cf:=hd 4 (by decide)
  have d51:Rv.ev a 51=.int .i64 k:=hd 5 (by decide)
  have dg:Rv.ev a 49=.bool false:=hd 3 (by decide)
  exact Rv.run (o:=ei6) rfl rfl (by rw[Rv.want_if (o':=ei3) rfl rfl rfl (hsz 49 (by decide)) dg];first|rfl|simp) (by unfold ei6;simp only[execOp,hev,d50,d51];go_simp<;>rfl) hW
 ·have d52:Rv.ev a 52=.pointer (some ⟨g,k,none⟩):=hd 6 (by decide)
  have dg:Rv.ev a 49=.bool false:=hd 3 (by decide)
  exact Rv.run (o:=ei7) rfl rfl (by rw[Rv.want_if (o':=ei3) rfl rfl rfl (hsz 49 (by decide)) dg];first|rfl|simp) (by unfold ei7;simp only[execOp,hev,d52];go_simp<;>rfl) hW
 ·have dg:Rv.ev a 49=.bool false:=hd 3 (by decide)
  exact Rv.run (o:=ei8) rfl rfl (by rw[Rv.want_if (o':=ei3) rfl rfl rfl (hsz 49 (by decide)) dg];first|rfl|simp) (by unfold ei8;simp only[execOp,hev,g3];go_simp<;>rfl) hW
 ·have d54:Rv.ev a 54=.pointer (some ⟨b4,1,none⟩):=hd 8 (by decide)
  have dg:Rv.ev a 49=.bool false:=hd 3 (by decide)
  exact Rv.run (o:=ei9) rfl rfl (by rw[Rv.want_if (o':=ei3) rfl rfl rfl (hsz 49 (by decide)) dg];first|rfl|simp) (by unfold ei9;simp only[execOp,hev,d54];go_simp<;>rfl) hW
 ·have d53:Rv.ev a 53=.int .i64 f2:=hd 7 (by decide)
  have d55:Rv.ev a 55=.int .i64 l2:=hd 9 (by decide)
  have dg:Rv.ev a 49=.bool false:=hd 3 (by decide)
  exact Rv.run (o:=ei10) rfl rfl (by rw[Rv.want_if (o':=ei3) rfl rfl rfl (hsz 49 (by decide)) dg];first|rfl|simp) (by unfold ei10;simp only[execOp,hev,d53,d55];go_simp<;>rfl) hW
 ·have d49:Rv.ev a 49=.bool false:=hd 3 (by decide)
  have d56:Rv.ev a 56=.bool (decide (f2<l2)):=hd 10 (by decide)
  exact Rv.run (o:=ei11) rfl rfl (Rv.want_free rfl) (by unfold ei11;simp only[execOp,hev,hcn,d49,d56];go_simp<;>rfl) hW
end
theorem lit64 (f:Nat→Value):((List.range 64).map f).toArray=#[f 0,f 1,f 2,f 3,f 4,f 5,f 6,f 7,f 8,f 9,f 10,f 11,f 12,f 13,f 14,f 15,f 16,f 17,f 18,f 19,f 20,f 21,f 22,f 23,f 24,f 25,f 26,f 27,f 28,f 29,f 30,f 31,f 32,f 33,f 34,f 35,f 36,f 37,f 38,f 39,f 40,f 41,f 42,f 43,f 44,f 45,f 46,f 47,f 48,f 49,f 50,f 51,f 52,f 53,f 54,f 55,f 56,f 57,f 58,f 59,f 60,f 61,f 62,f 63]:=rfl
theorem tmps64 (a:Act) (h:a.tmps.size=64):a.tmps=((List.range 64).map (Rv.ev a)).toArray:=by
 apply Array.ext
 ·simp[h]
 ·intro i h1 h2
  simp[Rv.ev,Act.eval,h1]
set_option maxHeartbeats 16000000 in
theorem offH {x0 x1 x2 x3 x4 x5 x6 x7 x8 x9 x10 x11 x12 x13 x14 x15 x16 x17 x18 x19 x20 x21 x22 x23 x24 x25 x26 x27 x28 x29 x30 x31 x32 x33 x34 x35 x36 x37 x38 x39 x40 x41 x42 x43 x44 x45 x46 x47 x48 x49 x50 x51 x52 x53 x54 x55 x56 x57 x58 x59 x60 x61 x62 x63:Value} {a:Act} (h:Rv.Off 12 ehsl { tmps:=#[x0,x1,x2,x3,x4,x5,x6,x7,x8,x9,x10,x11,x12,x13,x14,x15,x16,x17,x18,x19,x20,x21,x22,x23,x24,x25,x26,x27,x28,x29,x30,x31,x32,x33,x34,x35,x36,x37,x38,x39,x40,x41,x42,x43,x44,x45,x46,x47,x48,x49,x50,x51,x52,x53,x54,x55,x56,x57,x58,x59,x60,x61,x62,x63],defers:=[] } a):∃ y46 y47 y48 y49 y50 y51 y52 y53 y54 y55 y56 y57,(Rv.ev a 46=y46∧Rv.ev a 47=y47∧Rv.ev a 48=y48∧Rv.ev a 49=y49∧Rv.ev a 50=y50∧Rv.ev a 51=y51∧Rv.ev a 52=y52∧Rv.ev a 53=y53∧Rv.ev a 54=y54∧Rv.ev a 55=y55∧Rv.ev a 56=y56∧Rv.ev a 57=y57)∧a={ tmps:=#[x0,x1,x2,x3,x4,x5,x6,x7,x8,x9,x10,x11,x12,x13,x14,x15,x16,x17,x18,x19,x20,x21,x22,x23,x24,x25,x26,x27,x28,x29,x30,x31,x32,x33,x34,x35,x36,x37,x38,x39,x40,x41,x42,x43,x44,x45,y46,y47,y48,y49,y50,y51,y52,y53,y54,y55,y56,y57,x58,x59,x60,x61,x62,x63],defers:=[] }:=by
 refine⟨Rv.ev a 46,Rv.ev a 47,Rv.ev a 48,Rv.ev a 49,Rv.ev a 50,Rv.ev a 51,Rv.ev a 52,Rv.ev a 53,Rv.ev a 54,Rv.ev a 55,Rv.ev a 56,Rv.ev a 57,⟨rfl,rfl,rfl,rfl,rfl,rfl,rfl,rfl,rfl,rfl,rfl,rfl⟩,?_⟩
 have e:=tmps64 a h.size
 rw[lit64] at e
 have h0:Rv.ev a 0=x0:=h.same 0 (by decide)
 have h1:Rv.ev a 1=x1:=h.same 1 (by decide)
 have h2:Rv.ev a 2=x2:=h.same 2 (by decide)
 have h3:Rv.ev a 3=x3:=h.same 3 (by decide)
 have h4:Rv.ev a 4=x4:=h.same 4 (by decide)
 have h5:Rv.ev a 5=x5:=h.same 5 (by decide)
 have h6:Rv.ev a 6=x6:=h.same 6 (by decide)
 have h7:Rv.ev a 7=x7:=h.same 7 (by decide)
 have h8:Rv.ev a 8=x8:=h.same 8 (by decide)
 have h9:Rv.ev a 9=x9:=h.same 9 (by decide)
 have h10:Rv.ev a 10=x10:=h.same 10 (by decide)
 have h11:Rv.ev a 11=x11:=h.same 11 (by decide)
 have h12:Rv.ev a 12=x12:=h.same 12 (by decide)
 have h13:Rv.ev a 13=x13:=h.same 13 (by decide)
 have h14:Rv.ev a 14=x14:=h.same 14 (by decide)
 have h15:Rv.ev a 15=x15:=h.same 15 (by decide)
 have h16:Rv.ev a 16=x16:=h.same 16 (by decide)
 have h17:Rv.ev a 17=x17:=h.same 17 (by decide)
 have h18:Rv.ev a 18=x18:=h.same 18 (by decide)
 have h19:Rv.ev a 19=x19:=h.same 19 (by decide)
 have h20:Rv.ev a 20=x20:=h.same 20 (by decide)
 have h21:Rv.ev a 21=x21:=h.same 21 (by decide)
 have h22:Rv.ev a 22=x22:=h.same 22 (by decide)
 have h23:Rv.ev a 23=x23:=h.same 23 (by decide)
 have h24:Rv.ev a 24=x24:=h.same 24 (by decide)
 have h25:Rv.ev a 25=x25:=h.same 25 (by decide)
 have h26:Rv.ev a 26=x26:=h.same 26 (by decide)
 have h27:Rv.ev a 27=x27:=h.same 27 (by decide)
 have h28:Rv.ev a 28=x28:=h.same 28 (by decide)
 have h29:Rv.ev a 29=x29:=h.same 29 (by decide)
 have h30:Rv.ev a 30=x30:=h.same 30 (by decide)
 have h31:Rv.ev a 31=x31:=h.same 31 (by decide)
 have h32:Rv.ev a 32=x32:=h.same 32 (by decide)
 have h33:Rv.ev a 33=x33:=h.same 33 (by decide)
 have h34:Rv.ev a 34=x34:=h.same 34 (by decide)
 have h35:Rv.ev a 35=x35:=h.same 35 (by decide)
 have h36:Rv.ev a 36=x36:=h.same 36 (by decide)
 have h37:Rv.ev a 37=x37:=h.same 37 (by decide)
 have h38:Rv.ev a 38=x38:=h.same 38 (by decide)
 have h39:Rv.ev a 39=x39:=h.same 39 (by decide)
 have h40:Rv.ev a 40=x40:=h.same 40 (by decide)
 have h41:Rv.ev a 41=x41:=h.same 41 (by decide)
 have h42:Rv.ev a 42=x42:=h.same 42 (by decide)
 have h43:Rv.ev a 43=x43:=h.same 43 (by decide)
 have h44:Rv.ev a 44=x44:=h.same 44 (by decide)
 have h45:Rv.ev a 45=x45:=h.same 45 (by decide)
 have h58:Rv.ev a 58=x58:=h.same 58 (by decide)
 have h59:Rv.ev a 59=x59:=h.same 59 (by decide)
 have h60:Rv.ev a 60=x60:=h.same 60 (by decide)
 have h61:Rv.ev a 61=x61:=h.same 61 (by decide)
 have h62:Rv.ev a 62=x62:=h.same 62 (by decide)
 have h63:Rv.ev a 63=x63:=h.same 63 (by decide)
 rw[h0,h1,h2,h3,h4,h5,h6,h7,h8,h9,h10,h11,h12,h13,h14,h15,h16,h17,h18,h19,h20,h21,h22,h23,h24,h25,h26,h27,h28,h29,h30,h31,h32,h33,h34,h35,h36,h37,h38,h39,h40,h41,h42,h43,h44,h45,h58,h59,h60,h61,h62,h63] at e
 have hd:a.defers=[]:=h.def_
 cases a
 simp only at e hd
 rw[hd]
 exact congrArg (fun t=>({ tmps:=t,defers:=[] }:Act)) e
set_option maxHeartbeats 16000000 in
theorem offI {x0 x1 x2 x3 x4 x5 x6 x7 x8 x9 x10 x11 x12 x13 x14 x15 x16 x17 x18 x19 x20 x21 x22 x23 x24 x25 x26 x27 x28 x29 x30 x31 x32 x33 x34 x35 x36 x37 x38 x39 x40 x41 x42 x43 x44 x45 x46 x47 x48 x49 x50 x51 x52 x53 x54 x55 x56 x57 x58 x59 x60 x61 x62 x63:Value} {a:Act} (h:Rv.Off 12 eisl { tmps:=#[x0,x1,x2,x3,x4,x5,x6,x7,x8,x9,x10,x11,x12,x13,x14,x15,x16,x17,x18,x19,x20,x21,x22,x23,x24,x25,x26,x27,x28,x29,x30,x31,x32,x33,x34,x35,x36,x37,x38,x39,x40,x41,x42,x43,x44,x45,x46,x47,x48,x49,x50,x51,x52,x53,x54,x55,x56,x57,x58,x59,x60,x61,x62,x63],defers:=[] } a):∃ y46 y47 y48 y49 y50 y51 y52 y53 y54 y55 y56 y57,(Rv.ev a 46=y46∧Rv.ev a 47=y47∧Rv.ev a 48=y48∧Rv.ev a 49=y49∧Rv.ev a 50=y50∧Rv.ev a 51=y51∧Rv.ev a 52=y52∧Rv.ev a 53=y53∧Rv.ev a 54=y54∧Rv.ev a 55=y55∧Rv.ev a 56=y56∧Rv.ev a 57=y57)∧a={ tmps:=#[x0,x1,x2,x3,x4,x5,x6,x7,x8,x9,x10,x11,x12,x13,x14,x15,x16,x17,x18,x19,x20,x21,x22,x23,x24,x25,x26,x27,x28,x29,x30,x31,x32,x33,x34,x35,x36,x37,x38,x39,x40,x41,x42,x43,x44,x45,y46,y47,y48,y49,y50,y51,y52,y53,y54,y55,y56,y57,x58,x59,x60,x61,x62,x63],defers:=[] }:=by
 refine⟨Rv.ev a 46,Rv.ev a 47,Rv.ev a 48,Rv.ev a 49,Rv.ev a 50,Rv.ev a 51,Rv.ev a 52,Rv.ev a 53,Rv.ev a 54,Rv.ev a 55,Rv.ev a 56,Rv.ev a 57,⟨rfl,rfl,rfl,rfl,rfl,rfl,rfl,rfl,rfl,rfl,rfl,rfl⟩,?_⟩
 have e:=tmps64 a h.size
 rw[lit64] at e
 have h0:Rv.ev a 0=x0:=h.same 0 (by decide)
 have h1:Rv.ev a 1=x1:=h.same 1 (by decide)
 have h2:Rv.ev a 2=x2:=h.same 2 (by decide)
 have h3:Rv.ev a 3=x3:=h.same 3 (by decide)
 have h4:Rv.ev a 4=x4:=h.same 4 (by decide)
 have h5:Rv.ev a 5=x5:=h.same 5 (by decide)
 have h6:Rv.ev a 6=x6:=h.same 6 (by decide)
 have h7:Rv.ev a 7=x7:=h.same 7 (by decide)
 have h8:Rv.ev a 8=x8:=h.same 8 (by decide)
 have h9:Rv.ev a 9=x9:=h.same 9 (by decide)
 have h10:Rv.ev a 10=x10:=h.same 10 (by decide)
 have h11:Rv.ev a 11=x11:=h.same 11 (by decide)
 have h12:Rv.ev a 12=x12:=h.same 12 (by decide)
 have h13:Rv.ev a 13=x13:=h.same 13 (by decide)
 have h14:Rv.ev a 14=x14:=h.same 14 (by decide)
 have h15:Rv.ev a 15=x15:=h.same 15 (by decide)
 have h16:Rv.ev a 16=x16:=h.same 16 (by decide)
 have h17:Rv.ev a 17=x17:=h.same 17 (by decide)
 have h18:Rv.ev a 18=x18:=h.same 18 (by decide)
 have h19:Rv.ev a 19=x19:=h.same 19 (by decide)
 have h20:Rv.ev a 20=x20:=h.same 20 (by decide)
 have h21:Rv.ev a 21=x21:=h.same 21 (by decide)
 have h22:Rv.ev a 22=x22:=h.same 22 (by decide)
 have h23:Rv.ev a 23=x23:=h.same 23 (by decide)
 have h24:Rv.ev a 24=x24:=h.same 24 (by decide)
 have h25:Rv.ev a 25=x25:=h.same 25 (by decide)
 have h26:Rv.ev a 26=x26:=h.same 26 (by decide)
 have h27:Rv.ev a 27=x27:=h.same 27 (by decide)
 have h28:Rv.ev a 28=x28:=h.same 28 (by decide)
 have h29:Rv.ev a 29=x29:=h.same 29 (by decide)
 have h30:Rv.ev a 30=x30:=h.same 30 (by decide)
 have h31:Rv.ev a 31=x31:=h.same 31 (by decide)
 have h32:Rv.ev a 32=x32:=h.same 32 (by decide)
 have h33:Rv.ev a 33=x33:=h.same 33 (by decide)
 have h34:Rv.ev a 34=x34:=h.same 34 (by decide)
 have h35:Rv.ev a 35=x35:=h.same 35 (by decide)
 have h36:Rv.ev a 36=x36:=h.same 36 (by decide)
 have h37:Rv.ev a 37=x37:=h.same 37 (by decide)
 have h38:Rv.ev a 38=x38:=h.same 38 (by decide)
 have h39:Rv.ev a 39=x39:=h.same 39 (by decide)
 have h40:Rv.ev a 40=x40:=h.same 40 (by decide)
 have h41:Rv.ev a 41=x41:=h.same 41 (by decide)
 have h42:Rv.ev a 42=x42:=h.same 42 (by decide)
 have h43:Rv.ev a 43=x43:=h.same 43 (by decide)
 have h44:Rv.ev a 44=x44:=h.same 44 (by decide)
 have h45:Rv.ev a 45=x45:=h.same 45 (by decide)
 have h58:Rv.ev a 58=x58:=h.same 58 (by decide)
 have h59:Rv.ev a 59=x59:=h.same 59 (by decide)
 have h60:Rv.ev a 60=x60:=h.same 60 (by decide)
 have h61:Rv.ev a 61=x61:=h.same 61 (by decide)
 have h62:Rv.ev a 62=x62:=h.same 62 (by decide)
 have h63:Rv.ev a 63=x63:=h.same 63 (by decide)
 rw[h0,h1,h2,h3,h4,h5,h6,h7,h8,h9,h10,h11,h12,h13,h14,h15,h16,h17,h18,h19,h20,h21,h22,h23,h24,h25,h26,h27,h28,h29,h30,h31,h32,h33,h34,h35,h36,h37,h38,h39,h40,h41,h42,h43,h44,h45,h58,h59,h60,h61,h62,h63] at e
 have hd:a.defers=[]:=h.def_
 cases a
 simp only at e hd
 rw[hd]
 exact congrArg (fun t=>({ tmps:=t,defers:=[] }:Act)) e
end Go.Proofs.Ytkbglnhdbnijlaa
namespace Go.Proofs.Ytkbglnhdbnijlaa
open Go.RowKit Go.Maps
set_option maxRecDepth 100000
def rtK (gs:List Fn1) (k:Nat):Int × Int:=(gs.take k).foldl (fun r g=>(wrF gs g).foldl tellT r) (0,0)
theorem rtK_step (gs:List Fn1) (k:Nat) (h:k<gs.length):rtK gs (k+1)=(wrF gs (gs.getD k fd)).foldl tellT (rtK gs k):=by
 unfold rtK
 rw[List.take_succ_eq_append_getElem h,List.foldl_append,List.getD_eq_getElem?_getD,List.getElem?_eq_getElem h]
 rfl
theorem fold_step (zs:List Int) (j:Nat) (h:j<zs.length) (r:Int × Int):(zs.take (j+1)).foldl tellT r=tellT ((zs.take j).foldl tellT r) (zs.getD j 0):=by
 rw[List.take_succ_eq_append_getElem h,List.foldl_append,List.getD_eq_getElem?_getD,List.getElem?_eq_getElem h]
 rfl
set_option maxHeartbeats 8000000 in
theorem check07_any {w:World} {A:Nat→Prop} {ao:Option Addr} {gs:List Fn1} {c:Nat} (hF:FlW w A ao gs) (hA:∀ k,A k→k<w.heap.size) (hln:∀ g∈gs,lnF g) (hsz:∀ g∈gs,szE g.body≤65536) (hps:∀ g∈gs,g.pms.length≤65536) (hgs:gs.length≤65536) :
  Calls Try.prog 11 #[.agg #[.slice ao gs.length c]] w fun e w'=>e=.returned (.agg #[.int .i64 (rtP gs).1,.int .i64 (rtP gs).2])∧Below w.heap.size w w':=by
 have hb0:=below_two w (.cells #[.slice ao gs.length c] 26) (.cells #[.int .i64 0,.int .i64 0] 31)
 have hL0:=(Bk.new w 26 #[.slice ao gs.length c]).up (below_alloc _ (.cells #[.int .i64 0,.int .i64 0] 31))
 have hR0:=Bk.newAt (w:=w.alloc (.cells #[.slice ao gs.length c] 26)) (n:=w.heap.size+1) 31 #[.int .i64 0,.int .i64 0] (by simp)
 go_enter Try.func11,Try.ntmps11
 go_upto_region 1 with fail
 obtain⟨W,hW⟩:∃ W,W=(w.alloc (.cells #[.slice ao gs.length c] 26)).alloc (.cells #[.int .i64 0,.int .i64 0] 31):=⟨_,rfl⟩
 rw[← hW] at hb0 hL0 hR0 ⊢
 clear hW
 have hwW:w.heap.size+1<W.heap.size:=hR0.lt
 have c0:W.cell? ⟨w.heap.size,0,none⟩=some (.slice ao gs.length c):=hL0.cell 0
 have hsc:=check06_any (c:=c) (hF.up hb0) (fun k h=>by have:=hA k h;omega) hsz hps hgs
 obtain⟨q,hq⟩:∃ q,q=lsP (ftP gs):=⟨_,rfl⟩
 have HQ:Hid (q=lsP (ftP gs)):=hq
 rw[← hq] at hsc
 clear hq
 obtain⟨qy,qa⟩:=q
 dsimp only at hsc
 go_wp2_with fail
 refine hsc.mono ?_
 rintro e w1 ⟨rfl,hb1⟩
 have hB1:=Below.thn hb0 hb1
 have hL1:=hL0.up hb1
 have hR1:=hR0.up hb1
 have hw1:=hb1.size
 have hS1:=Bk.new w1 31 #[.int .i64 qy,.int .i64 qa]
 clear hsc hb0 hb1 hL0 hR0 c0
 go_upto_region 2 with fail
 have hb2:=below_alloc w1 (.cells #[.int .i64 qy,.int .i64 qa] 31)
 have hB2:=Below.thn hB1 hb2
 have hL2:=hL1.up hb2
 have hR2:=hR1.up hb2
 clear hL1 hR1
 generalize w1.alloc (.cells #[.int .i64 qy,.int .i64 qa] 31)=w2 at *
 have s0:w2.cell? ⟨w1.heap.size,0,none⟩=some (.int .i64 qy):=hS1.cell 0
 have s1:w2.cell? ⟨w1.heap.size,1,none⟩=some (.int .i64 qa):=hS1.cell 1
 have r0:w2.cell? ⟨w.heap.size+1,0,none⟩=some (.int .i64 0):=hR2.cell 0
 have r1:w2.cell? ⟨w.heap.size+1,1,none⟩=some (.int .i64 0):=hR2.cell 1
 have f0:=hR2.frz 0
 have f1:=hR2.frz 1
 have hw2:=hb2.size
 by_cases hy:qy=0
 ·subst hy
  have hq0:(lsP (ftP gs)).1=0:=by rw[← HQ.out]
  have hqa:qa=0:=by
   have e:=HQ.out
   rw[ft_zero hq0] at e
   exact (Prod.mk.inj e).2
  subst hqa
  have HE:Hid (rtP gs=rtK gs gs.length):=by
   show rtP gs=rtK gs gs.length
   unfold rtP rtK
   rw[if_pos hq0,List.take_length]
  have c0:w2.cell? ⟨w.heap.size,0,none⟩=some (.slice ao gs.length c):=hL2.cell 0
  have hF2:=hF.up hB2
  obtain⟨b4,hb4⟩:∃ b4,b4=w1.heap.size:=⟨_,rfl⟩
  rw[← hb4] at hS1 hw1 s0 ⊢
  have hbl:b4<w2.heap.size:=hS1.lt
  clear r0 r1 f0 f1 HQ hq0 s1 hF hb4 hb2
  have HB2:Hid (Below w.heap.size w w2):=hB2
  have HA:Hid (∀ k,A k→k<w.heap.size):=hA
  have HL:Hid (∀ g∈gs,lnF g):=hln
  have HZ:Hid (∀ g∈gs,szE g.body≤65536):=hsz
  have HP:Hid (∀ g∈gs,g.pms.length≤65536):=hps
  have hsw:=hB2.size
  clear hA hln hsz hps hB2 hB1
  go_wp2_with fail
  go_loopw [4] (fun v wr=>∃ k:Nat,k≤gs.length∧v=.int .i64 k∧Bk wr b4 31 [.int .i64 (rtK gs k).1,.int .i64 (rtK gs k).2]∧ButS (·=b4) w2 wr) (fun v _=>gs.length-(intOf v).toNat)
  case atStart=>exact⟨0,Nat.zero_le _,rfl,hS1,.refl _ _⟩
  case round=>
   obtain⟨k,hkn,rfl,hBk,hUk⟩:=hrel
   have hLk:=hUk.bk hL2 (by omega)
   have hwr:=hUk.size
   have c0:wr.cell? ⟨w.heap.size,0,none⟩=some (.slice ao gs.length c):=hLk.cell 0
   by_cases hlt:k<gs.length
   ·have HST:Hid (rtK gs (k+1)=(wrF gs (gs.getD k fd)).foldl tellT (rtK gs k)):=rtK_step gs k hlt
    have hmem:gs.getD k fd∈gs:=by rw[List.getD_eq_getElem?_getD,List.getElem?_eq_getElem hlt];exact List.getElem_mem hlt
    have hFk:FlW wr A ao gs:=hF2.keep2 hUk.size fun j h hl=>hUk.block j hl (by have:=HA.out j h;omega)
    obtain⟨g,vs,rfl,hAg,hv,hxv⟩:=hFk.at k hlt
    have hgw:=HA.out g hAg
    obtain⟨G,hG⟩:∃ G,G=gs.getD k fd:=⟨_,rfl⟩
    have hlG:=HL.out _ hmem
    have hsG:=HZ.out _ hmem
    have hpG:=HP.out _ hmem
    obtain⟨rk,hrk⟩:∃ rk,rk=rtK gs k:=⟨_,rfl⟩
    rw[← hrk] at hBk HST
    rw[← hG] at hxv HST hlG hsG hpG
    clear hG hmem hrk
    obtain⟨ap,cp,es,rfl,hp1,he1⟩:=hxv
    obtain⟨x0,x1,x2,x3,x4,x5,x6,rfl⟩:=list7 he1.len
    simp only[List.cons_append,List.nil_append] at hv
    have HRE:Hid (∀ X,Below wr.heap.size wr X→Calls Try.prog 22 #[.agg #[.slice (some ⟨g,0,none⟩) gs.length c],.slice ap G.pms.length cp,.agg #[x0,x1,x2,x3,x4,x5,x6],.int .i64 G.ty] X fun e w'=>(∃ v',e=.returned v'∧IvO w' X.heap.size v' (wrF gs G))∧Below X.heap.size X w'):=fun X hX=>wrong07_any (by omega) c 65536 G.body hsG (by omega) hlG.body X A (some ⟨g,0,none⟩) [x0,x1,x2,x3,x4,x5,x6] _ (G.pms.map pmPa) G.ty (hFk.up hX) (he1.up hX) (fun j h=>by have:=HA.out j h;have:=hX.size;omega) ((hp1.up hX).pas cp) (by rw[List.length_map];omega)
    have HS:Hid (∀ X,Below wr.heap.size wr X→X.cell? ⟨w.heap.size,0,none⟩=some (.slice (some ⟨g,0,none⟩) gs.length c)∧X.cell? ⟨g,k*11+1,none⟩=some (.slice ap G.pms.length cp)∧X.cell? ⟨g,k*11+2,none⟩=some (.int .i64 G.ty)∧X.cell? ⟨g,k*11+3,none⟩=some x0∧X.cell? ⟨g,k*11+3+1,none⟩=some x1∧X.cell? ⟨g,k*11+3+2,none⟩=some x2∧X.cell? ⟨g,k*11+3+3,none⟩=some x3∧X.cell? ⟨g,k*11+3+4,none⟩=some x4∧X.cell? ⟨g,k*11+3+5,none⟩=some x5∧X.cell? ⟨g,k*11+3+6,none⟩=some x6):=fun X hX=>by
     obtain⟨d0,d1,d2,d3,d4,d5,d6,d7,d8,d9,d10⟩:=range11 (w:=X) (fun j u hj=>(World.cell?_of_block (hX.block _ (cell_lt (hv j u hj)))).trans (hv j u hj))
     exact⟨(hLk.up hX).cell 0,d1,d2,d3,d4,d5,d6,d7,d8,d9⟩
    have k0:wr.drew.cell? ⟨w.heap.size,0,none⟩=some (.slice (some ⟨g,0,none⟩) gs.length c)∧wr.drew.cell? ⟨g,k*11+1,none⟩=some (.slice ap G.pms.length cp)∧wr.drew.cell? ⟨g,k*11+2,none⟩=some (.int .i64 G.ty)∧wr.drew.cell? ⟨g,k*11+3,none⟩=some x0∧wr.drew.cell? ⟨g,k*11+3+1,none⟩=some x1∧wr.drew.cell? ⟨g,k*11+3+2,none⟩=some x2∧wr.drew.cell? ⟨g,k*11+3+3,none⟩=some x3∧wr.drew.cell? ⟨g,k*11+3+4,none⟩=some x4∧wr.drew.cell? ⟨g,k*11+3+5,none⟩=some x5∧wr.drew.cell? ⟨g,k*11+3+6,none⟩=some x6:=HS.out _ (Below.refl wr.heap.size wr).drew
    have hzl:(wrF gs G).length≤65536:=Nat.le_trans (wrE_len ..) hsG
    obtain⟨zs,hzs⟩:∃ zs,zs=wrF gs G:=⟨_,rfl⟩
    rw[← hzs] at HRE HST hzl
    clear hzs hv hp1 he1 hFk
    go_upto_region 7 with fail
    clear c0
    go_region_held3 (fun X=>X.cell? ⟨w.heap.size,0,none⟩=some (.slice (some ⟨g,0,none⟩) gs.length c)∧X.cell? ⟨g,k*11+1,none⟩=some (.slice ap G.pms.length cp)∧X.cell? ⟨g,k*11+2,none⟩=some (.int .i64 G.ty)∧X.cell? ⟨g,k*11+3,none⟩=some x0∧X.cell? ⟨g,k*11+3+1,none⟩=some x1∧X.cell? ⟨g,k*11+3+2,none⟩=some x2∧X.cell? ⟨g,k*11+3+3,none⟩=some x3∧X.cell? ⟨g,k*11+3+4,none⟩=some x4∧X.cell? ⟨g,k*11+3+5,none⟩=some x5∧X.cell? ⟨g,k*11+3+6,none⟩=some x6) (first|with_reducible exact k0|with_reducible assumption)
     (first
      |(go_at_call 22;refine (HRE.out _ (Below.refl wr.heap.size wr).drew).mono ?_;rintro e w6 ⟨⟨v6,rfl,hO6⟩,n6⟩;have b6:Below wr.heap.size wr w6:=Below.thn (Below.refl wr.heap.size wr).drew n6;have k6:w6.cell? ⟨w.heap.size,0,none⟩=some (.slice (some ⟨g,0,none⟩) gs.length c)∧w6.cell? ⟨g,k*11+1,none⟩=some (.slice ap G.pms.length cp)∧w6.cell? ⟨g,k*11+2,none⟩=some (.int .i64 G.ty)∧w6.cell? ⟨g,k*11+3,none⟩=some x0∧w6.cell? ⟨g,k*11+3+1,none⟩=some x1∧w6.cell? ⟨g,k*11+3+2,none⟩=some x2∧w6.cell? ⟨g,k*11+3+3,none⟩=some x3∧w6.cell? ⟨g,k*11+3+4,none⟩=some x4∧w6.cell? ⟨g,k*11+3+5,none⟩=some x5∧w6.cell? ⟨g,k*11+3+6,none⟩=some x6:=HS.out _ b6;clear n6)
      |fail)
    all_goals
     have hw6:=b6.size
     obtain⟨az,cz,rfl,hrow⟩:=hO6.row
     have hB6:=hBk.up b6
     have hU6:=hUk.trans (.below b6)
     have HR:Hid (∀ j,j<zs.length→∃ g2,az=some ⟨g2,0,none⟩∧b4<g2∧g2<w6.heap.size∧w6.cell? ⟨g2,j,none⟩=some (.int .i64 (zs.getD j 0))):=fun j hj=>by
      rcases hrow with⟨_,_,e⟩|⟨g2,e,h1,h2,h3⟩
      ·rw[e] at hj;simp at hj
      ·exact⟨g2,e,by have:wr.drew.heap.size=wr.heap.size:=rfl;omega,h2,h3 j _ (ivL_at zs j hj)⟩
     clear k0 k6 hO6 hBk hrow HRE HS
     go_wp2_with fail
     go_loopw [6] (fun v wq=>∃ j:Nat,j≤zs.length∧v=.int .i64 j∧Bk wq b4 31 [.int .i64 ((zs.take j).foldl tellT rk).1,.int .i64 ((zs.take j).foldl tellT rk).2]∧ButS (·=b4) w6 wq) (fun v _=>zs.length-(intOf v).toNat)
     case atStart=>exact⟨0,Nat.zero_le _,rfl,hB6,.refl _ _⟩
     case round=>
      obtain⟨j,hjn,rfl,hBj,hUj⟩:=hrel
      have hwq:=hUj.size
      by_cases hjt:j<zs.length
      ·obtain⟨g2,rfl,hg1,hg2,hc⟩:=HR.out j hjt
       have d1:wr.cell? ⟨g2,j,none⟩=some (.int .i64 (zs.getD j 0)):=by rw[← hc];exact World.cell?_of_block (hUj.block g2 hg2 (by omega))
       have hst:=fold_step zs j hjt rk
       obtain⟨z,hz⟩:∃ z,z=zs.getD j 0:=⟨_,rfl⟩
       obtain⟨⟨l1,l2⟩,hl⟩:∃ l,l=(zs.take j).foldl tellT rk:=⟨_,rfl⟩
       rw[← hz] at d1 hst
       rw[← hl] at hst hBj
       dsimp only at hBj
       unfold tellT at hst
       dsimp only at hst
       have c1:wr.cell? ⟨b4,0,none⟩=some (.int .i64 l1):=hBj.cell 0
       have c2:wr.cell? ⟨b4,1,none⟩=some (.int .i64 l2):=hBj.cell 1
       have HS:Hid ((zs.take (j+1)).foldl tellT rk=if l1=0∨z<l2 then (34,z) else (l1,l2)):=hst
       clear hc hst hz hl
       go_upto_region 11 with fail
       go_cut [57] (fun v wx=>v=.bool (decide (l1=0∨z<l2))∧Below wr.heap.size wr wx)
       case first=>
        by_cases h0:l1=0
        ·skip
         refine wp_region_any (by kernel_rfl) ?_
         refine chk7t (X0:=wr) (b4:=b4) (g:=g2) (n:=zs.length) (cf:=cz) (k:=j) (l1:=l1) (l2:=l2) (f2:=z) hjt (fun W hW=>⟨(World.cell?_of_block (hW.block b4 (by omega))).trans c1,(World.cell?_of_block (hW.block b4 (by omega))).trans c2,(World.cell?_of_block (hW.block g2 (by omega))).trans d1⟩) h0 (by show 64≤64;decide) rfl rfl rfl (Below.refl _ _).drew ?_
         intro a W hO hW hv
         obtain⟨y46,y47,y48,y49,y50,y51,y52,y53,y54,y55,y56,y57,⟨_,_,_,_,_,_,_,_,_,_,_,e57⟩,rfl⟩:=offH hO
         have f57:y57=.bool true:=e57.symm.trans (hv 11 (by decide))
         subst f57
         clear hO hv e57
         go_wp2_with fail
         go_meet
         case rel=>exact⟨by rw[decide_eq_true (Or.inl h0)],hW⟩
        ·skip
         refine wp_region_any (by kernel_rfl) ?_
         refine chk7f (X0:=wr) (b4:=b4) (g:=g2) (n:=zs.length) (cf:=cz) (k:=j) (l1:=l1) (l2:=l2) (f2:=z) hjt (fun W hW=>⟨(World.cell?_of_block (hW.block b4 (by omega))).trans c1,(World.cell?_of_block (hW.block b4 (by omega))).trans c2,(World.cell?_of_block (hW.block g2 (by omega))).trans d1⟩) h0 (by show 64≤64;decide) rfl rfl rfl (Below.refl _ _).drew ?_
         intro a W hO hW hv
         obtain⟨y46,y47,y48,y49,y50,y51,y52,y53,y54,y55,y56,y57,⟨_,_,_,_,_,_,_,_,_,_,_,e57⟩,rfl⟩:=offI hO
         have f57:y57=.bool (decide (z<l2)):=e57.symm.trans (hv 11 (by decide))
         subst f57
         clear hO hv e57
         go_wp2_with fail
         go_meet
         case rel=>exact⟨by simp[h0],hW⟩
       case rest=>
        obtain⟨rfl,hbx⟩:=hcut
        have hBx:=hBj.up hbx
        have hUx:=hUj.trans (.below hbx)
        have x1:wc.cell? ⟨g2,j,none⟩=some (.int .i64 z):=(World.cell?_of_block (hbx.block g2 (by omega))).trans d1
        clear c1 c2 d1 hBj hUj hbx
        by_cases hb:l1=0∨z<l2
        ·rw[decide_eq_true hb]
         have e:(zs.take (j+1)).foldl tellT rk=(34,z):=by rw[HS.out,if_pos hb]
         go_wp2_with (refine wpList_storeN rfl 31 (.tmp 3) (.tmp 62) rfl b4 0 [.int .i64 34,.int .i64 z] rfl rfl hBx (Nat.le_refl 2) Try.infoFt (by intro v hv;simp only[List.mem_cons,List.not_mem_nil,or_false] at hv;rcases hv with rfl|rfl<;>rfl) ?_;intro w9 hB9 hO9)
         have hB9':Bk w9 b4 31 [.int .i64 34,.int .i64 z]:=hB9
         have hU9:=hUx.trans (.oth hO9)
         go_roundw
         case rel=>exact⟨j+1,by omega,by go_num,by rw[e];exact hB9',hU9⟩
         case measure=>simp[intOf];omega
        ·rw[decide_eq_false hb]
         have e:(zs.take (j+1)).foldl tellT rk=(l1,l2):=by rw[HS.out,if_neg hb]
         have HX:Hid (Bk wc b4 31 [.int .i64 ((zs.take (j+1)).foldl tellT rk).1,.int .i64 ((zs.take (j+1)).foldl tellT rk).2]):=by rw[e];exact hBx
         clear e hb HS
         go_wp2_with fail
         go_roundw
         case rel=>exact⟨j+1,by omega,by go_num,HX.out,hUx⟩
         case measure=>simp[intOf];omega
      ·have hje:j=zs.length:=by omega
       subst hje
       rw[List.take_length,← HST.out] at hBj
       have hUe:=hU6.trans hUj
       clear hUj hB6 HR
       go_wp2_with fail
       go_roundw
       case rel=>exact⟨k+1,by omega,by go_num,hBj,hUe⟩
       case measure=>simp[intOf];omega
   ·have hke:k=gs.length:=by omega
    subst hke
    obtain⟨⟨py,pa⟩,hp⟩:∃ p,p=rtK gs gs.length:=⟨_,rfl⟩
    rw[← hp] at hBk HE
    clear hp
    have hRk:=hUk.bk hR2 (by omega)
    have c1:wr.cell? ⟨b4,0,none⟩=some (.int .i64 py):=hBk.cell 0
    have c2:wr.cell? ⟨b4,1,none⟩=some (.int .i64 pa):=hBk.cell 1
    have r0:wr.cell? ⟨w.heap.size+1,0,none⟩=some (.int .i64 0):=hRk.cell 0
    have r1:wr.cell? ⟨w.heap.size+1,1,none⟩=some (.int .i64 0):=hRk.cell 1
    have f0:=hRk.frz 0
    have f1:=hRk.frz 1
    have hBw:Below w.heap.size w wr:=⟨hUk.os.trans HB2.out.os,hUk.tape.trans HB2.out.tape,hUk.output.trans HB2.out.output,Nat.le_trans HB2.out.size hUk.size,fun k hk=>(hUk.block k (by have:=HB2.out.size;omega) (by omega)).trans (HB2.out.block k hk)⟩
    obtain⟨q0,q1,HB⟩:=fin2 hRk hBw (by omega) (.int .i64 py) (.int .i64 pa)
    have HB:Hid (Below w.heap.size w ((wr.setCell ⟨w.heap.size+1,0,none⟩ (.int .i64 py)).setCell ⟨w.heap.size+1,1,none⟩ (.int .i64 pa))):=HB
    clear hBk hUk hRk hBw hLk
    go_wp2_with fail
    exact bodyPost_ret (v:=.agg #[.int .i64 py,.int .i64 pa]) (by simp[results,Try.results11,go_sem,q0,q1]) rfl ⟨by rw[HE.out],HB.out⟩
 ·have g:(qy==0)=false:=by simpa using hy
  have g':(qy != 0)=true:=by simpa using hy
  have e:rtP gs=(qy,qa):=by
   unfold rtP
   rw[← HQ.out]
   exact if_neg hy
  obtain⟨q0,q1,HB⟩:=fin2 hR2 hB2 (by omega) (.int .i64 qy) (.int .i64 qa)
  have HB:Hid (Below w.heap.size w ((w2.setCell ⟨w.heap.size+1,0,none⟩ (.int .i64 qy)).setCell ⟨w.heap.size+1,1,none⟩ (.int .i64 qa))):=HB
  have HE:Hid (rtP gs=(qy,qa)):=e
  clear e HQ
  go_wp2_with fail
  exact bodyPost_ret (v:=.agg #[.int .i64 qy,.int .i64 qa]) (by simp[results,Try.results11,go_sem,q0,q1]) rfl ⟨by rw[HE.out],HB.out⟩
end Go.Proofs.Ytkbglnhdbnijlaa
