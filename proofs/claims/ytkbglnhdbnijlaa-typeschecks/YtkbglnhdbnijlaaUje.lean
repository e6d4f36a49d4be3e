/-
  2 texts in one: what each proves stands at its head.
-/
import Derived.Test.YtkbglnhdbnijlaaUe
import Derived.Test.YtkbglnhdbnijlaaUjd
import Derived.Test.YtkbglnhdbnijlaaTy
namespace Go.Proofs.Ytkbglnhdbnijlaa
open Go.RowKit
set_option maxRecDepth 100000
def ej0 : Oper := { dst := some 12, op := Op.move (Operand.tmp 4), type := 4, pos := "law.go:32", after := #[], guard := none }
def ej1 : Oper := { dst := some 13, op := Op.unOp UnOp.not 4 (Operand.tmp 12), type := 4, pos := "law.go:32", after := #[{ on := 0, ground := Ground.data }], guard := none }
def ej2 : Oper := { dst := some 14, op := Op.move (Operand.tmp 13), type := 4, pos := "law.go:32", after := #[{ on := 1, ground := Ground.data }], guard := none }
def ej3 : Oper := { dst := some 15, op := Op.load 26 (Operand.tmp 3), type := 26, pos := "law.go:32", after := #[{ on := 2, ground := Ground.guard }], guard := some (2, false) }
def ej4 : Oper := { dst := some 16, op := Op.call { callee := Callee.value (Operand.func 10), args := #[Operand.tmp 15], argTypes := #[26] }, type := 31, pos := "law.go:32", after := #[{ on := 3, ground := Ground.data }, { on := 2, ground := Ground.chain }, { on := 2, ground := Ground.guard }], guard := some (2, false) }
def ej5 : Oper := { dst := some 17, op := Op.load 26 (Operand.tmp 3), type := 26, pos := "law.go:32", after := #[{ on := 2, ground := Ground.guard }], guard := some (2, false) }
def ej6 : Oper := { dst := some 18, op := Op.call { callee := Callee.value (Operand.func 11), args := #[Operand.tmp 17], argTypes := #[26] }, type := 31, pos := "law.go:32", after := #[{ on := 5, ground := Ground.data }, { on := 4, ground := Ground.chain }, { on := 2, ground := Ground.guard }], guard := some (2, false) }
def ej7 : Oper := { dst := some 19, op := Op.binOp BinOp.eql 31 (Operand.tmp 16) (Operand.tmp 18) 31, type := 4, pos := "law.go:32", after := #[{ on := 4, ground := Ground.data }, { on := 6, ground := Ground.data }, { on := 2, ground := Ground.guard }], guard := some (2, false) }
def ej8 : Oper := { dst := some 20, op := Op.pick (Operand.tmp 14) (Operand.const (Value.bool true)) (Operand.tmp 19), type := 4, pos := "law.go:32", after := #[{ on := 2, ground := Ground.data }, { on := 7, ground := Ground.data }], guard := none }
def ej9 : Oper := { dst := some 2, op := Op.assign (Operand.tmp 20), type := 4, pos := "law.go:32", after := #[{ on := 8, ground := Ground.data }, { on := 6, ground := Ground.chain }, { on := 0, ground := Ground.phase }, { on := 1, ground := Ground.phase }, { on := 2, ground := Ground.phase }, { on := 3, ground := Ground.phase }, { on := 4, ground := Ground.phase }, { on := 5, ground := Ground.phase }, { on := 6, ground := Ground.phase }, { on := 7, ground := Ground.phase }, { on := 8, ground := Ground.phase }], guard := none }
def ejops:Array Oper:=#[ej0,ej1,ej2,ej3,ej4,ej5,ej6,ej7,ej8,ej9]
def ejsl (k:Nat):Nat:=if k=9 then 2 else 12+k
def ejV (n c:Nat) (ao:Option Addr) (y z:Int):Nat→Value
 |0=>.bool true
 |1=>.bool false
 |2=>.bool false
 |3=>.agg #[.slice ao n c]
 |4=>.agg #[.int .i64 y,.int .i64 z]
 |5=>.agg #[.slice ao n c]
 |6=>.agg #[.int .i64 y,.int .i64 z]
 |7=>.bool true
 |8=>.bool true
 |_=>.bool true
section
variable {Q:Exit→Act→World→Prop} {X0 w0:World} {a0:Act}
set_option maxHeartbeats 4000000 in
theorem law7t {b n c:Nat} {ao:Option Addr} {y z:Int} (h1:∀ w,Below X0.heap.size X0 w→w.cell? ⟨b,0,none⟩=some (.slice ao n c)) (hc:∀ w,Below X0.heap.size X0 w→Calls Try.prog 10 #[.agg #[.slice ao n c]] w fun e w'=>e=.returned (.agg #[.int .i64 y,.int .i64 z])∧Below w.heap.size w w')
  (hd':∀ w,Below X0.heap.size X0 w→Calls Try.prog 11 #[.agg #[.slice ao n c]] w fun e w'=>e=.returned (.agg #[.int .i64 y,.int .i64 z])∧Below w.heap.size w w') (hs:21≤a0.tmps.size)
  (e4:Rv.ev a0 4=.bool true)
  (e3:Rv.ev a0 3=.pointer (some ⟨b,0,none⟩))
  (hw:Below X0.heap.size X0 w0)
  (hQ:∀ a w,Rv.Off 10 ejsl a0 a→Below X0.heap.size X0 w→(∀ j,j<10→Rv.ev a (ejsl j)=(ejV n c ao y z) j)→Q .normal a w) :
  wpAny Try.prog .any ejops Q 10 (Array.replicate 10 false) a0 w0:=by
 refine Rv.region (X0:=X0) 10 ejsl (ejV n c ao y z) rfl (by decide) (by decide) (fun j hj=>Nat.lt_of_lt_of_le ((by decide:∀ j,j<10→ejsl j<21) j hj) hs) hw ?_ hQ
 intro i a W hi hO hW hd
 have hev:∀ j,a.eval (.tmp j)=Rv.ev a j:=fun _=>rfl
 have hcn:∀ v,a.eval (.const v)=v:=fun _=>rfl
 have hfn:∀ v,a.eval (.func v)=.func (.func v) #[] #[]:=fun _=>rfl
 have hsz:∀ k,k<21→k<a.tmps.size:=fun k hk=>by rw[hO.size];omega
 have g4:Rv.ev a 4=.bool true:=(hO.same 4 (by decide)).trans e4
 have g3:Rv.ev a 3=.pointer (some ⟨b,0,none⟩):=(hO.same 3 (by decide)).trans e3
 have k1:=h1 W hW
 have hN:i=0∨i=1∨i=2∨i=3∨i=4∨i=5∨i=6∨i=7∨i=8∨i=9:=by omega
 rcases hN with rfl|rfl|rfl|rfl|rfl|rfl|rfl|rfl|rfl|rfl
 ·exact Rv.run (o:=ej0) rfl rfl (Rv.want_free rfl) (by unfold ej0;simp only[execOp,hev,g4];rfl) hW
 ·have d12:Rv.ev a 12=.bool true:=hd 0 (by decide)
  exact Rv.run (o:=ej1) rfl rfl (Rv.want_free rfl) (by unfold ej1;simp only[execOp,hev,d12];go_simp<;>rfl) hW
 ·have d13:Rv.ev a 13=.bool false:=hd 1 (by decide)
  exact Rv.run (o:=ej2) rfl rfl (Rv.want_free rfl) (by unfold ej2;simp only[execOp,hev,d13];rfl) hW
 ·have dg:Rv.ev a 14=.bool false:=hd 2 (by decide)
  exact Rv.run (o:=ej3) rfl rfl (by rw[Rv.want_if (o':=ej2) rfl rfl rfl (hsz 14 (by decide)) dg];first|rfl|simp) (by unfold ej3;simp only[execOp,hev,g3];go_simp<;>rfl) hW
 ·have d15:Rv.ev a 15=.agg #[.slice ao n c]:=hd 3 (by decide)
  have dg:Rv.ev a 14=.bool false:=hd 2 (by decide)
  refine Rv.call (o:=ej4) (f:=10) (vs:=#[.agg #[.slice ao n c]]) rfl rfl (by rw[Rv.want_if (o':=ej2) rfl rfl rfl (hsz 14 (by decide)) dg];first|rfl|simp) ?_ hW (hc W hW)
  unfold ej4
  simp only[execOp,resolve,invoke,Sem.run_bind,List.map_toArray,List.map_cons,List.map_nil,hev,hfn,d15]
  go_simp
 ·have dg:Rv.ev a 14=.bool false:=hd 2 (by decide)
  exact Rv.run (o:=ej5) rfl rfl (by rw[Rv.want_if (o':=ej2) rfl rfl rfl (hsz 14 (by decide)) dg];first|rfl|simp) (by unfold ej5;simp only[execOp,hev,g3];go_simp<;>rfl) hW
 ·have d17:Rv.ev a 17=.agg #[.slice ao n c]:=hd 5 (by decide)
  have dg:Rv.ev a 14=.bool false:=hd 2 (by decide)
  refine Rv.call (o:=ej6) (f:=11) (vs:=#[.agg #[.slice ao n c]]) rfl rfl (by rw[Rv.want_if (o':=ej2) rfl rfl rfl (hsz 14 (by decide)) dg];first|rfl|simp) ?_ hW (hd' W hW)
  unfold ej6
  simp only[execOp,resolve,invoke,Sem.run_bind,List.map_toArray,List.map_cons,List.map_nil,hev,hfn,d17]
  go_simp
 ·have d16:Rv.ev a 16=.agg #[.int .i64 y,.int .i64 z]:=hd 4 (by decide)
  have d18:Rv.ev a 18=.agg #[.int .i64 y,.int .i64 z]:=hd 6 (by decide)
  have dg:Rv.ev a 14=.bool false:=hd 2 (by decide)
  exact Rv.run (o:=ej7) rfl rfl (by rw[Rv.want_if (o':=ej2) rfl rfl rfl (hsz 14 (by decide)) dg];first|rfl|simp) (by unfold ej7;simp only[execOp,hev,d16,d18];go_simp<;>rfl) hW
 ·have d14:Rv.ev a 14=.bool false:=hd 2 (by decide)
  have d19:Rv.ev a 19=.bool true:=hd 7 (by decide)
  exact Rv.run (o:=ej8) rfl rfl (Rv.want_free rfl) (by unfold ej8;simp only[execOp,hev,hcn,d14,d19];go_simp<;>rfl) hW
 ·have d20:Rv.ev a 20=.bool true:=hd 8 (by decide)
  exact Rv.run (o:=ej9) rfl rfl (Rv.want_free rfl) (by unfold ej9;simp only[execOp,hev,d20];rfl) hW
end
def ek_0 : Oper := { dst := some 12, op := Op.move (Operand.tmp 4), type := 4, pos := "law.go:32", after := #[], guard := none }
def ek_1 : Oper := { dst := some 13, op := Op.unOp UnOp.not 4 (Operand.tmp 12), type := 4, pos := "law.go:32", after := #[{ on := 0, ground := Ground.data }], guard := none }
def ek_2 : Oper := { dst := some 14, op := Op.move (Operand.tmp 13), type := 4, pos := "law.go:32", after := #[{ on := 1, ground := Ground.data }], guard := none }
def ek_3 : Oper := { dst := some 15, op := Op.load 26 (Operand.tmp 3), type := 26, pos := "law.go:32", after := #[{ on := 2, ground := Ground.guard }], guard := some (2, false) }
def ek_4 : Oper := { dst := some 16, op := Op.call { callee := Callee.value (Operand.func 10), args := #[Operand.tmp 15], argTypes := #[26] }, type := 31, pos := "law.go:32", after := #[{ on := 3, ground := Ground.data }, { on := 2, ground := Ground.chain }, { on := 2, ground := Ground.guard }], guard := some (2, false) }
def ek_5 : Oper := { dst := some 17, op := Op.load 26 (Operand.tmp 3), type := 26, pos := "law.go:32", after := #[{ on := 2, ground := Ground.guard }], guard := some (2, false) }
def ek_6 : Oper := { dst := some 18, op := Op.call { callee := Callee.value (Operand.func 11), args := #[Operand.tmp 17], argTypes := #[26] }, type := 31, pos := "law.go:32", after := #[{ on := 5, ground := Ground.data }, { on := 4, ground := Ground.chain }, { on := 2, ground := Ground.guard }], guard := some (2, false) }
def ek_7 : Oper := { dst := some 19, op := Op.binOp BinOp.eql 31 (Operand.tmp 16) (Operand.tmp 18) 31, type := 4, pos := "law.go:32", after := #[{ on := 4, ground := Ground.data }, { on := 6, ground := Ground.data }, { on := 2, ground := Ground.guard }], guard := some (2, false) }
def ek_8 : Oper := { dst := some 20, op := Op.pick (Operand.tmp 14) (Operand.const (Value.bool true)) (Operand.tmp 19), type := 4, pos := "law.go:32", after := #[{ on := 2, ground := Ground.data }, { on := 7, ground := Ground.data }], guard := none }
def ek_9 : Oper := { dst := some 2, op := Op.assign (Operand.tmp 20), type := 4, pos := "law.go:32", after := #[{ on := 8, ground := Ground.data }, { on := 6, ground := Ground.chain }, { on := 0, ground := Ground.phase }, { on := 1, ground := Ground.phase }, { on := 2, ground := Ground.phase }, { on := 3, ground := Ground.phase }, { on := 4, ground := Ground.phase }, { on := 5, ground := Ground.phase }, { on := 6, ground := Ground.phase }, { on := 7, ground := Ground.phase }, { on := 8, ground := Ground.phase }], guard := none }
def ek_ops:Array Oper:=#[ek_0,ek_1,ek_2,ek_3,ek_4,ek_5,ek_6,ek_7,ek_8,ek_9]
def ek_sl (k:Nat):Nat:=if k=9 then 2 else 12+k
def ek_V  : Nat→Value
 |0=>.bool false
 |1=>.bool true
 |2=>.bool true
 |3=>undef
 |4=>undef
 |5=>undef
 |6=>undef
 |7=>undef
 |8=>.bool true
 |_=>.bool true
section
variable {Q:Exit→Act→World→Prop} {X0 w0:World} {a0:Act}
set_option maxHeartbeats 4000000 in
theorem law7f  (hs:21≤a0.tmps.size)
  (e4:Rv.ev a0 4=.bool false)
  (hw:Below X0.heap.size X0 w0)
  (hQ:∀ a w,Rv.Off 10 ek_sl a0 a→Below X0.heap.size X0 w→(∀ j,j<10→Rv.ev a (ek_sl j)=(ek_V ) j)→Q .normal a w) :
  wpAny Try.prog .any ek_ops Q 10 (Array.replicate 10 false) a0 w0:=by
 refine Rv.region (X0:=X0) 10 ek_sl (ek_V ) rfl (by decide) (by decide) (fun j hj=>Nat.lt_of_lt_of_le ((by decide:∀ j,j<10→ek_sl j<21) j hj) hs) hw ?_ hQ
 intro i a W hi hO hW hd
 have hev:∀ j,a.eval (.tmp j)=Rv.ev a j:=fun _=>rfl
 have hcn:∀ v,a.eval (.const v)=v:=fun _=>rfl
 have hfn:∀ v,a.eval (.func v)=.func (.func v) #[] #[]:=fun _=>rfl
 have hsz:∀ k,k<21→k<a.tmps.size:=fun k hk=>by rw[hO.size];omega
 have g4:Rv.ev a 4=.bool false:=(hO.same 4 (by decide)).trans e4
 have hN:i=0∨i=1∨i=2∨i=3∨i=4∨i=5∨i=6∨i=7∨i=8∨i=9:=by omega
 rcases hN with rfl|rfl|rfl|rfl|rfl|rfl|rfl|rfl|rfl|rfl
 ·exact Rv.run (o:=ek_0) rfl rfl (Rv.want_free rfl) (by unfold ek_0;simp only[execOp,hev,g4];rfl) hW
 ·have d12:Rv.ev a 12=.bool false:=hd 0 (by decide)
  exact Rv.run (o:=ek_1) rfl rfl (Rv.want_free rfl) (by unfold ek_1;simp only[execOp,hev,d12];go_simp<;>rfl) hW
 ·have d13:Rv.ev a 13=.bool true:=hd 1 (by decide)
  exact Rv.run (o:=ek_2) rfl rfl (Rv.want_free rfl) (by unfold ek_2;simp only[execOp,hev,d13];rfl) hW
 ·have dg:Rv.ev a 14=.bool true:=hd 2 (by decide)
  exact Rv.skip (o:=ek_3) rfl rfl (by rw[Rv.want_if (o':=ek_2) rfl rfl rfl (hsz 14 (by decide)) dg];first|rfl|simp) hW
 ·have d15:Rv.ev a 15=undef:=hd 3 (by decide)
  have dg:Rv.ev a 14=.bool true:=hd 2 (by decide)
  exact Rv.skip (o:=ek_4) rfl rfl (by rw[Rv.want_if (o':=ek_2) rfl rfl rfl (hsz 14 (by decide)) dg];first|rfl|simp) hW
 ·have dg:Rv.ev a 14=.bool true:=hd 2 (by decide)
  exact Rv.skip (o:=ek_5) rfl rfl (by rw[Rv.want_if (o':=ek_2) rfl rfl rfl (hsz 14 (by decide)) dg];first|rfl|simp) hW
 ·have d17:Rv.ev a 17=undef:=hd 5 (by decide)
  have dg:Rv.ev a 14=.bool true:=hd 2 (by decide)
  exact Rv.skip (o:=ek_6) rfl rfl (by rw[Rv.want_if (o':=ek_2) rfl rfl rfl (hsz 14 (by decide)) dg];first|rfl|simp) hW
 ·have d16:Rv.ev a 16=undef:=hd 4 (by decide)
  have d18:Rv.ev a 18=undef:=hd 6 (by decide)
  have dg:Rv.ev a 14=.bool true:=hd 2 (by decide)
  exact Rv.skip (o:=ek_7) rfl rfl (by rw[Rv.want_if (o':=ek_2) rfl rfl rfl (hsz 14 (by decide)) dg];first|rfl|simp) hW
 ·have d14:Rv.ev a 14=.bool true:=hd 2 (by decide)
  have d19:Rv.ev a 19=undef:=hd 7 (by decide)
  exact Rv.run (o:=ek_8) rfl rfl (Rv.want_free rfl) (by unfold ek_8;simp only[execOp,hev,hcn,d14,d19];go_simp<;>rfl) hW
 ·have d20:Rv.ev a 20=.bool true:=hd 8 (by decide)
  exact Rv.run (o:=ek_9) rfl rfl (Rv.want_free rfl) (by unfold ek_9;simp only[execOp,hev,d20];rfl) hW
end
theorem lit21 (f:Nat→Value):((List.range 21).map f).toArray=#[f 0,f 1,f 2,f 3,f 4,f 5,f 6,f 7,f 8,f 9,f 10,f 11,f 12,f 13,f 14,f 15,f 16,f 17,f 18,f 19,f 20]:=rfl
theorem tmps21 (a:Act) (h:a.tmps.size=21):a.tmps=((List.range 21).map (Rv.ev a)).toArray:=by
 apply Array.ext
 ·simp[h]
 ·intro i h1 h2
  simp[Rv.ev,Act.eval,h1]
set_option maxHeartbeats 16000000 in
theorem offJ {x0 x1 x2 x3 x4 x5 x6 x7 x8 x9 x10 x11 x12 x13 x14 x15 x16 x17 x18 x19 x20:Value} {a:Act} (h:Rv.Off 10 ejsl { tmps:=#[x0,x1,x2,x3,x4,x5,x6,x7,x8,x9,x10,x11,x12,x13,x14,x15,x16,x17,x18,x19,x20],defers:=[] } a):∃ y2 y12 y13 y14 y15 y16 y17 y18 y19 y20,(Rv.ev a 2=y2∧Rv.ev a 12=y12∧Rv.ev a 13=y13∧Rv.ev a 14=y14∧Rv.ev a 15=y15∧Rv.ev a 16=y16∧Rv.ev a 17=y17∧Rv.ev a 18=y18∧Rv.ev a 19=y19∧Rv.ev a 20=y20)∧a={ tmps:=#[x0,x1,y2,x3,x4,x5,x6,x7,x8,x9,x10,x11,y12,y13,y14,y15,y16,y17,y18,y19,y20],defers:=[] }:=by
 refine⟨Rv.ev a 2,Rv.ev a 12,Rv.ev a 13,Rv.ev a 14,Rv.ev a 15,Rv.ev a 16,Rv.ev a 17,Rv.ev a 18,Rv.ev a 19,Rv.ev a 20,⟨rfl,rfl,rfl,rfl,rfl,rfl,rfl,rfl,rfl,rfl⟩,?_⟩
 have e:=tmps21 a h.size
 rw[lit21] at e
 have h0:Rv.ev a 0=x0:=h.same 0 (by decide)
 have h1:Rv.ev a 1=x1:=h.same 1 (by decide)
 have h3:Rv.ev a 3=x3:=h.same 3 (by decide)
 have h4:Rv.ev a 4=x4:=h.same 4 (by decide)
 have h5:Rv.ev a 5=x5:=h.same 5 (by decide)
 have h6:Rv.ev a 6=x6:=h.same 6 (by decide)
 have h7:Rv.ev a 7=x7:=h.same 7 (by decide)
 have h8:Rv.ev a 8=x8:=h.same 8 (by decide)
 have h9:Rv.ev a 9=x9:=h.same 9 (by decide)
 have h10:Rv.ev a 10=x10:=h.same 10 (by decide)
 have h11:Rv.ev a 11=x11:=h.same 11 (by decide)
 rw[h0,h1,h3,h4,h5,h6,h7,h8,h9,h10,h11] at e
 have hd:a.defers=[]:=h.def_
 cases a
 simp only at e hd
 rw[hd]
 exact congrArg (fun t=>({ tmps:=t,defers:=[] }:Act)) e
set_option maxHeartbeats 16000000 in
theorem offK {x0 x1 x2 x3 x4 x5 x6 x7 x8 x9 x10 x11 x12 x13 x14 x15 x16 x17 x18 x19 x20:Value} {a:Act} (h:Rv.Off 10 ek_sl { tmps:=#[x0,x1,x2,x3,x4,x5,x6,x7,x8,x9,x10,x11,x12,x13,x14,x15,x16,x17,x18,x19,x20],defers:=[] } a):∃ y2 y12 y13 y14 y15 y16 y17 y18 y19 y20,(Rv.ev a 2=y2∧Rv.ev a 12=y12∧Rv.ev a 13=y13∧Rv.ev a 14=y14∧Rv.ev a 15=y15∧Rv.ev a 16=y16∧Rv.ev a 17=y17∧Rv.ev a 18=y18∧Rv.ev a 19=y19∧Rv.ev a 20=y20)∧a={ tmps:=#[x0,x1,y2,x3,x4,x5,x6,x7,x8,x9,x10,x11,y12,y13,y14,y15,y16,y17,y18,y19,y20],defers:=[] }:=by
 refine⟨Rv.ev a 2,Rv.ev a 12,Rv.ev a 13,Rv.ev a 14,Rv.ev a 15,Rv.ev a 16,Rv.ev a 17,Rv.ev a 18,Rv.ev a 19,Rv.ev a 20,⟨rfl,rfl,rfl,rfl,rfl,rfl,rfl,rfl,rfl,rfl⟩,?_⟩
 have e:=tmps21 a h.size
 rw[lit21] at e
 have h0:Rv.ev a 0=x0:=h.same 0 (by decide)
 have h1:Rv.ev a 1=x1:=h.same 1 (by decide)
 have h3:Rv.ev a 3=x3:=h.same 3 (by decide)
 have h4:Rv.ev a 4=x4:=h.same 4 (by decide)
 have h5:Rv.ev a 5=x5:=h.same 5 (by decide)
 have h6:Rv.ev a 6=x6:=h.same 6 (by decide)
 have h7:Rv.ev a 7=x7:=h.same 7 (by decide)
 have h8:Rv.ev a 8=x8:=h.same 8 (by decide)
 have h9:Rv.ev a 9=x9:=h.same 9 (by decide)
 have h10:Rv.ev a 10=x10:=h.same 10 (by decide)
 have h11:Rv.ev a 11=x11:=h.same 11 (by decide)
 rw[h0,h1,h3,h4,h5,h6,h7,h8,h9,h10,h11] at e
 have hd:a.defers=[]:=h.def_
 cases a
 simp only at e hd
 rw[hd]
 exact congrArg (fun t=>({ tmps:=t,defers:=[] }:Act)) e
end Go.Proofs.Ytkbglnhdbnijlaa
namespace Go.Proofs.Ytkbglnhdbnijlaa
open Go.RowKit
set_option maxRecDepth 100000
theorem check07_ok {w:World} {A:Nat→Prop} {ao:Option Addr} {gs:List Fn1} {c:Nat} (ho:PrgOk gs) (hln:∀ g∈gs,lnF g) (hF:FlW w A ao gs) :
  Calls Try.prog 11 #[.agg #[.slice ao gs.length c]] w fun e w'=>e=.returned (.agg #[.int .i64 (rtP gs).1,.int .i64 (rtP gs).2])∧Below w.heap.size w w':=
 check07_any (A:=fun b=>A b∧b<w.heap.size) (hF.imp fun b h hl=>⟨h,hl⟩) (fun _ h=>h.2) hln (fun g hg=>by have:=ho.sz g hg;omega) (fun g hg=>by have:=ho.pms g hg;omega) (by have:=ho.num;omega)
set_option maxHeartbeats 4000000 in
theorem typesChecks_any (ao:Option Addr) (cap:Nat) (l:List UInt8) (hcap:l.length≤cap) (w:World) (hT:Bd w ao l) :
  Calls Try.prog 3 #[.slice ao l.length cap] w fun e w'=>e=.returned (.bool true)∧Below w.heap.size w w':=by
 obtain⟨F,hF⟩:∃ F,F=12*(l.length+1)+9:=⟨_,rfl⟩
 have hfu:∀ ms,cut rdN l 0=.ok ms→progL (mf ms) LW5 F [] 0≠.out:=fuel_ok l LW5 F (by omega)
 have HF:Hid (F=12*(l.length+1)+9):=hF
 clear hF
 go_enter Try.func3,Try.ntmps3
 go_wp2_with fail
 refine (awake7_any w).mono ?_
 rintro e w1 ⟨rfl,hb1⟩
 have m2:=read5_any ao cap l hcap w1 (hT.up hb1) F hfu
 go_wp2_with fail
 refine m2.mono ?_
 rintro e w2 ⟨hb2,hrd⟩
 have hB2:=Below.thn hb1 hb2
 clear m2 hb1 hb2
 rcases rd_fork hrd with⟨ms,gs,j,a2,c2,hl,hc,hp,rfl,hfl⟩|rfl
 ·have hok:PrgOk gs:=prgOk hl (by rw[HF.out];exact Nat.le_refl _) hc hp
  have HLN:Hid (∀ g∈gs,lnF g):=prgLn hl hc hp
  have HEQ:Hid (tyP gs=rtP gs):=tyP_rtP (prgLn hl hc hp) (places_apart (cut_row rdN l 0 ms hc) hp)
  have hb3:=below_alloc w2 (.cells #[.slice a2 gs.length c2] 26)
  have hP3:=Bk.new w2 26 #[.slice a2 gs.length c2]
  have HB3:Hid (Below w.heap.size w _):=Below.thn hB2 hb3
  have hf3:=hfl.up hb3
  have HOK:Hid (PrgOk gs):=hok
  go_upto_region 4 with fail
  generalize hW3:w2.alloc (.cells #[.slice a2 gs.length c2] 26)=W3 at *
  clear hW3 hfl hb3 hok hp hc hrd hB2
  have HC1:Hid (∀ W,Below W3.heap.size W3 W→Calls Try.prog 10 #[.agg #[.slice a2 gs.length c2]] W fun e w'=>e=.returned (.agg #[.int .i64 (tyP gs).1,.int .i64 (tyP gs).2])∧Below W.heap.size W w'):=fun W hW=>check_ok HOK.out HLN.out (hf3.up hW)
  have HC2:Hid (∀ W,Below W3.heap.size W3 W→Calls Try.prog 11 #[.agg #[.slice a2 gs.length c2]] W fun e w'=>e=.returned (.agg #[.int .i64 (tyP gs).1,.int .i64 (tyP gs).2])∧Below W.heap.size W w'):=fun W hW=>by rw[HEQ.out];exact check07_ok HOK.out HLN.out (hf3.up hW)
  refine wp_region_any (by kernel_rfl) ?_
  refine law7t (X0:=W3) (b:=w2.heap.size) (n:=gs.length) (c:=c2) (ao:=a2) (y:=(tyP gs).1) (z:=(tyP gs).2) (fun W hW=>(hP3.up hW).cell 0) HC1.out HC2.out (by show 21≤21;decide) rfl rfl (Below.refl _ _).drew ?_
  intro a W hO hW hv
  obtain⟨y2,y12,y13,y14,y15,y16,y17,y18,y19,y20,⟨e2,_,_,_,_,_,_,_,_,_⟩,rfl⟩:=offJ hO
  have f2:y2=.bool true:=e2.symm.trans (hv 9 (by decide))
  subst f2
  have HB4:Hid (Below w.heap.size w W):=Below.thn HB3.out hW
  clear hO hv e2 HC1 HC2 hW
  go_wp2_with fail
  go_ret
  exact⟨rfl,HB4.out⟩
 ·have hb3:=below_alloc w2 (.cells #[.slice none 0 0] 26)
  have HB3:Hid (Below w.heap.size w _):=Below.thn hB2 hb3
  clear hB2
  go_upto_region 4 with fail
  generalize hW3:w2.alloc (.cells #[.slice none 0 0] 26)=W3 at *
  clear hW3 hb3
  refine wp_region_any (by kernel_rfl) ?_
  refine law7f (X0:=W3) (by show 21≤21;decide) rfl (Below.refl _ _).drew ?_
  intro a W hO hW hv
  obtain⟨y2,y12,y13,y14,y15,y16,y17,y18,y19,y20,⟨e2,_,_,_,_,_,_,_,_,_⟩,rfl⟩:=offK hO
  have f2:y2=.bool true:=e2.symm.trans (hv 9 (by decide))
  subst f2
  have HB4:Hid (Below w.heap.size w W):=Below.thn HB3.out hW
  clear hO hv e2 hW
  go_wp2_with fail
  go_ret
  exact⟨rfl,HB4.out⟩
end Go.Proofs.Ytkbglnhdbnijlaa
