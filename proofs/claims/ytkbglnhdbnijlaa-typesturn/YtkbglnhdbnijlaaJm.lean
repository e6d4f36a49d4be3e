/-
  The regions of TypesTurn that call types.Of.
-/
import Derived.Test.YtkbglnhdbnijlaaUji
namespace Go.Proofs.Ytkbglnhdbnijlaa
open Go.RowKit
set_option maxRecDepth 100000
def ep_0 : Oper := { dst := some 72, op := Op.load 26 (Operand.tmp 7), type := 26, pos := "law.go:95", after := #[], guard := none }
def ep_1 : Oper := { dst := some 73, op := Op.move (Operand.tmp 9), type := 34, pos := "law.go:95", after := #[], guard := none }
def ep_2 : Oper := { dst := some 74, op := Op.load 40 (Operand.tmp 10), type := 40, pos := "law.go:95", after := #[], guard := none }
def ep_3 : Oper := { dst := some 75, op := Op.call { callee := Callee.value (Operand.func 13), args := #[Operand.tmp 72, Operand.tmp 73, Operand.tmp 74], argTypes := #[26, 34, 40] }, type := 43, pos := "law.go:95", after := #[{ on := 0, ground := Ground.data }, { on := 1, ground := Ground.data }, { on := 2, ground := Ground.data }], guard := none }
def ep_4 : Oper := { dst := some 71, op := Op.move (Operand.tmp 75), type := 43, pos := "law.go:95", after := #[{ on := 3, ground := Ground.data }], guard := none }
def ep_5 : Oper := { dst := some 76, op := Op.extract (Operand.tmp 71) 0, type := 35, pos := "law.go:95", after := #[{ on := 4, ground := Ground.data }], guard := none }
def ep_6 : Oper := { dst := some 77, op := Op.extract (Operand.tmp 71) 1, type := 29, pos := "law.go:95", after := #[{ on := 4, ground := Ground.data }, { on := 7, ground := Ground.gcOnly Departure.lateStores }], guard := none }
def ep_7 : Oper := { dst := some 13, op := Op.assign (Operand.tmp 76), type := 35, pos := "law.go:95", after := #[{ on := 5, ground := Ground.data }, { on := 3, ground := Ground.chain }, { on := 0, ground := Ground.phase }, { on := 1, ground := Ground.phase }, { on := 2, ground := Ground.phase }, { on := 3, ground := Ground.phase }, { on := 4, ground := Ground.phase }, { on := 5, ground := Ground.phase }, { on := 6, ground := Ground.textOnly Departure.lateStores }], guard := none }
def ep_8 : Oper := { dst := some 14, op := Op.assign (Operand.tmp 77), type := 29, pos := "law.go:95", after := #[{ on := 6, ground := Ground.data }, { on := 7, ground := Ground.chain }, { on := 0, ground := Ground.phase }, { on := 1, ground := Ground.phase }, { on := 2, ground := Ground.phase }, { on := 3, ground := Ground.phase }, { on := 4, ground := Ground.phase }, { on := 5, ground := Ground.phase }, { on := 6, ground := Ground.phase }, { on := 7, ground := Ground.phase }], guard := none }
def ep_ops:Array Oper:=#[ep_0,ep_1,ep_2,ep_3,ep_4,ep_5,ep_6,ep_7,ep_8]
def ep_sl (k:Nat):Nat:=if k=4 then 71 else if k=5 then 76 else if k=6 then 77 else if k=7 then 13 else if k=8 then 14 else 72+k
def ep_V (G L c2 np cp:Nat) (ap:Option Addr) (tt_ ee:Int) (x0 x1 x2 x3 x4 x5 x6:Value):Nat→Value
 |0=>.agg #[.slice (some ⟨G,0,none⟩) L c2]
 |1=>.slice ap np cp
 |2=>.agg #[x0,x1,x2,x3,x4,x5,x6]
 |3=>.tuple #[.int .i64 tt_,.int .i64 ee]
 |4=>.tuple #[.int .i64 tt_,.int .i64 ee]
 |5=>.int .i64 tt_
 |6=>.int .i64 ee
 |7=>.int .i64 tt_
 |_=>.int .i64 ee
section
variable {Q:Exit→Act→World→Prop} {X0 w0:World} {a0:Act}
set_option maxHeartbeats 4000000 in
theorem turn10 {b7 bx G L c2 np cp:Nat} {ap:Option Addr} {tt_ ee:Int} {x0 x1 x2 x3 x4 x5 x6:Value} (h1:∀ w,Below X0.heap.size X0 w→w.cell? ⟨b7,0,none⟩=some (.slice (some ⟨G,0,none⟩) L c2)) (hx:∀ w,Below X0.heap.size X0 w→w.cell? ⟨bx,0,none⟩=some x0∧w.cell? ⟨bx,1,none⟩=some x1∧w.cell? ⟨bx,2,none⟩=some x2∧w.cell? ⟨bx,3,none⟩=some x3∧w.cell? ⟨bx,4,none⟩=some x4∧w.cell? ⟨bx,5,none⟩=some x5∧w.cell? ⟨bx,6,none⟩=some x6)
  (hc:∀ w,Below X0.heap.size X0 w→Calls Try.prog 13 #[.agg #[.slice (some ⟨G,0,none⟩) L c2],.slice ap np cp,.agg #[x0,x1,x2,x3,x4,x5,x6]] w fun e w'=>e=.returned (.tuple #[.int .i64 tt_,.int .i64 ee])∧Below w.heap.size w w') (hs:251≤a0.tmps.size)
  (e7:Rv.ev a0 7=.pointer (some ⟨b7,0,none⟩))
  (e9:Rv.ev a0 9=.slice ap np cp)
  (e10:Rv.ev a0 10=.pointer (some ⟨bx,0,none⟩))
  (hw:Below X0.heap.size X0 w0)
  (hQ:∀ a w,Rv.Off 9 ep_sl a0 a→Below X0.heap.size X0 w→(∀ j,j<9→Rv.ev a (ep_sl j)=(ep_V G L c2 np cp ap tt_ ee x0 x1 x2 x3 x4 x5 x6) j)→Q .normal a w) :
  wpList Try.prog ep_ops Q ep_ops.toList a0 w0:=by
 refine Rv.list (X0:=X0) 9 ep_sl (ep_V G L c2 np cp ap tt_ ee x0 x1 x2 x3 x4 x5 x6) rfl (by decide) (by decide) (fun j hj=>Nat.lt_of_lt_of_le ((by decide:∀ j,j<9→ep_sl j<251) j hj) hs) hw ?_ hQ
 intro i a W hi hO hW hd
 have hev:∀ j,a.eval (.tmp j)=Rv.ev a j:=fun _=>rfl
 have hcn:∀ v,a.eval (.const v)=v:=fun _=>rfl
 have hfn:∀ v,a.eval (.func v)=.func (.func v) #[] #[]:=fun _=>rfl
 have hsz:∀ k,k<251→k<a.tmps.size:=fun k hk=>by rw[hO.size];omega
 have g7:Rv.ev a 7=.pointer (some ⟨b7,0,none⟩):=(hO.same 7 (by decide)).trans e7
 have g9:Rv.ev a 9=.slice ap np cp:=(hO.same 9 (by decide)).trans e9
 have g10:Rv.ev a 10=.pointer (some ⟨bx,0,none⟩):=(hO.same 10 (by decide)).trans e10
 have k1:=h1 W hW
 obtain⟨k2,k3,k4,k5,k6,k7,k8⟩:=hx W hW
 have hN:i=0∨i=1∨i=2∨i=3∨i=4∨i=5∨i=6∨i=7∨i=8:=by omega
 rcases hN with rfl|rfl|rfl|rfl|rfl|rfl|rfl|rfl|rfl
 ·exact Rv.run (o:=ep_0) rfl rfl (Rv.want_free rfl) (by unfold ep_0;simp only[execOp,hev,g7];go_simp<;>rfl) hW
 ·exact Rv.run (o:=ep_1) rfl rfl (Rv.want_free rfl) (by unfold ep_1;simp only[execOp,hev,g9];rfl) hW
 ·exact Rv.run (o:=ep_2) rfl rfl (Rv.want_free rfl) (by unfold ep_2;simp only[execOp,hev,g10];go_simp<;>rfl) hW
 ·have d72:Rv.ev a 72=.agg #[.slice (some ⟨G,0,none⟩) L c2]:=hd 0 (by decide)
  have d73:Rv.ev a 73=.slice ap np cp:=hd 1 (by decide)
  have d74:Rv.ev a 74=.agg #[x0,x1,x2,x3,x4,x5,x6]:=hd 2 (by decide)
  refine Rv.call (o:=ep_3) (f:=13) (vs:=#[.agg #[.slice (some ⟨G,0,none⟩) L c2],.slice ap np cp,.agg #[x0,x1,x2,x3,x4,x5,x6]]) rfl rfl (Rv.want_free rfl) ?_ hW (hc W hW)
  unfold ep_3
  simp only[execOp,resolve,invoke,Sem.run_bind,List.map_toArray,List.map_cons,List.map_nil,hev,hfn,d72,d73,d74]
  go_simp
 ·have d75:Rv.ev a 75=.tuple #[.int .i64 tt_,.int .i64 ee]:=hd 3 (by decide)
  exact Rv.run (o:=ep_4) rfl rfl (Rv.want_free rfl) (by unfold ep_4;simp only[execOp,hev,d75];rfl) hW
 ·have d71:Rv.ev a 71=.tuple #[.int .i64 tt_,.int .i64 ee]:=hd 4 (by decide)
  exact Rv.run (o:=ep_5) rfl rfl (Rv.want_free rfl) (by unfold ep_5;simp only[execOp,hev,d71];rfl) hW
 ·have d71:Rv.ev a 71=.tuple #[.int .i64 tt_,.int .i64 ee]:=hd 4 (by decide)
  exact Rv.run (o:=ep_6) rfl rfl (Rv.want_free rfl) (by unfold ep_6;simp only[execOp,hev,d71];rfl) hW
 ·have d76:Rv.ev a 76=.int .i64 tt_:=hd 5 (by decide)
  exact Rv.run (o:=ep_7) rfl rfl (Rv.want_free rfl) (by unfold ep_7;simp only[execOp,hev,d76];rfl) hW
 ·have d77:Rv.ev a 77=.int .i64 ee:=hd 6 (by decide)
  exact Rv.run (o:=ep_8) rfl rfl (Rv.want_free rfl) (by unfold ep_8;simp only[execOp,hev,d77];rfl) hW
end
def eq_0 : Oper := { dst := some 79, op := Op.load 26 (Operand.tmp 7), type := 26, pos := "law.go:96", after := #[], guard := none }
def eq_1 : Oper := { dst := some 80, op := Op.move (Operand.tmp 9), type := 34, pos := "law.go:96", after := #[], guard := none }
def eq_2 : Oper := { dst := some 81, op := Op.load 40 (Operand.tmp 11), type := 40, pos := "law.go:96", after := #[], guard := none }
def eq_3 : Oper := { dst := some 82, op := Op.call { callee := Callee.value (Operand.func 13), args := #[Operand.tmp 79, Operand.tmp 80, Operand.tmp 81], argTypes := #[26, 34, 40] }, type := 43, pos := "law.go:96", after := #[{ on := 0, ground := Ground.data }, { on := 1, ground := Ground.data }, { on := 2, ground := Ground.data }], guard := none }
def eq_4 : Oper := { dst := some 78, op := Op.move (Operand.tmp 82), type := 43, pos := "law.go:96", after := #[{ on := 3, ground := Ground.data }], guard := none }
def eq_5 : Oper := { dst := some 83, op := Op.extract (Operand.tmp 78) 0, type := 35, pos := "law.go:96", after := #[{ on := 4, ground := Ground.data }], guard := none }
def eq_6 : Oper := { dst := some 84, op := Op.extract (Operand.tmp 78) 1, type := 29, pos := "law.go:96", after := #[{ on := 4, ground := Ground.data }, { on := 7, ground := Ground.gcOnly Departure.lateStores }], guard := none }
def eq_7 : Oper := { dst := some 15, op := Op.assign (Operand.tmp 83), type := 35, pos := "law.go:96", after := #[{ on := 5, ground := Ground.data }, { on := 3, ground := Ground.chain }, { on := 0, ground := Ground.phase }, { on := 1, ground := Ground.phase }, { on := 2, ground := Ground.phase }, { on := 3, ground := Ground.phase }, { on := 4, ground := Ground.phase }, { on := 5, ground := Ground.phase }, { on := 6, ground := Ground.textOnly Departure.lateStores }], guard := none }
def eq_8 : Oper := { dst := some 16, op := Op.assign (Operand.tmp 84), type := 29, pos := "law.go:96", after := #[{ on := 6, ground := Ground.data }, { on := 7, ground := Ground.chain }, { on := 0, ground := Ground.phase }, { on := 1, ground := Ground.phase }, { on := 2, ground := Ground.phase }, { on := 3, ground := Ground.phase }, { on := 4, ground := Ground.phase }, { on := 5, ground := Ground.phase }, { on := 6, ground := Ground.phase }, { on := 7, ground := Ground.phase }], guard := none }
def eq_ops:Array Oper:=#[eq_0,eq_1,eq_2,eq_3,eq_4,eq_5,eq_6,eq_7,eq_8]
def eq_sl (k:Nat):Nat:=if k=4 then 78 else if k=5 then 83 else if k=6 then 84 else if k=7 then 15 else if k=8 then 16 else 79+k
def eq_V (G L c2 np cp:Nat) (ap:Option Addr) (tt_ ee:Int) (x0 x1 x2 x3 x4 x5 x6:Value):Nat→Value
 |0=>.agg #[.slice (some ⟨G,0,none⟩) L c2]
 |1=>.slice ap np cp
 |2=>.agg #[x0,x1,x2,x3,x4,x5,x6]
 |3=>.tuple #[.int .i64 tt_,.int .i64 ee]
 |4=>.tuple #[.int .i64 tt_,.int .i64 ee]
 |5=>.int .i64 tt_
 |6=>.int .i64 ee
 |7=>.int .i64 tt_
 |_=>.int .i64 ee
section
variable {Q:Exit→Act→World→Prop} {X0 w0:World} {a0:Act}
set_option maxHeartbeats 4000000 in
theorem turn11 {b7 bx G L c2 np cp:Nat} {ap:Option Addr} {tt_ ee:Int} {x0 x1 x2 x3 x4 x5 x6:Value} (h1:∀ w,Below X0.heap.size X0 w→w.cell? ⟨b7,0,none⟩=some (.slice (some ⟨G,0,none⟩) L c2)) (hx:∀ w,Below X0.heap.size X0 w→w.cell? ⟨bx,0,none⟩=some x0∧w.cell? ⟨bx,1,none⟩=some x1∧w.cell? ⟨bx,2,none⟩=some x2∧w.cell? ⟨bx,3,none⟩=some x3∧w.cell? ⟨bx,4,none⟩=some x4∧w.cell? ⟨bx,5,none⟩=some x5∧w.cell? ⟨bx,6,none⟩=some x6)
  (hc:∀ w,Below X0.heap.size X0 w→Calls Try.prog 13 #[.agg #[.slice (some ⟨G,0,none⟩) L c2],.slice ap np cp,.agg #[x0,x1,x2,x3,x4,x5,x6]] w fun e w'=>e=.returned (.tuple #[.int .i64 tt_,.int .i64 ee])∧Below w.heap.size w w') (hs:251≤a0.tmps.size)
  (e7:Rv.ev a0 7=.pointer (some ⟨b7,0,none⟩))
  (e9:Rv.ev a0 9=.slice ap np cp)
  (e11:Rv.ev a0 11=.pointer (some ⟨bx,0,none⟩))
  (hw:Below X0.heap.size X0 w0)
  (hQ:∀ a w,Rv.Off 9 eq_sl a0 a→Below X0.heap.size X0 w→(∀ j,j<9→Rv.ev a (eq_sl j)=(eq_V G L c2 np cp ap tt_ ee x0 x1 x2 x3 x4 x5 x6) j)→Q .normal a w) :
  wpList Try.prog eq_ops Q eq_ops.toList a0 w0:=by
 refine Rv.list (X0:=X0) 9 eq_sl (eq_V G L c2 np cp ap tt_ ee x0 x1 x2 x3 x4 x5 x6) rfl (by decide) (by decide) (fun j hj=>Nat.lt_of_lt_of_le ((by decide:∀ j,j<9→eq_sl j<251) j hj) hs) hw ?_ hQ
 intro i a W hi hO hW hd
 have hev:∀ j,a.eval (.tmp j)=Rv.ev a j:=fun _=>rfl
 have hcn:∀ v,a.eval (.const v)=v:=fun _=>rfl
 have hfn:∀ v,a.eval (.func v)=.func (.func v) #[] #[]:=fun _=>rfl
 have hsz:∀ k,k<251→k<a.tmps.size:=fun k hk=>by rw[hO.size];omega
 have g7:Rv.ev a 7=.pointer (some ⟨b7,0,none⟩):=(hO.same 7 (by decide)).trans e7
 have g9:Rv.ev a 9=.slice ap np cp:=(hO.same 9 (by decide)).trans e9
 have g11:Rv.ev a 11=.pointer (some ⟨bx,0,none⟩):=(hO.same 11 (by decide)).trans e11
 have k1:=h1 W hW
 obtain⟨k2,k3,k4,k5,k6,k7,k8⟩:=hx W hW
 have hN:i=0∨i=1∨i=2∨i=3∨i=4∨i=5∨i=6∨i=7∨i=8:=by omega
 rcases hN with rfl|rfl|rfl|rfl|rfl|rfl|rfl|rfl|rfl
 ·exact Rv.run (o:=eq_0) rfl rfl (Rv.want_free rfl) (by unfold eq_0;simp only[execOp,hev,g7];go_simp<;>rfl) hW
 ·exact Rv.run (o:=eq_1) rfl rfl (Rv.want_free rfl) (by unfold eq_1;simp only[execOp,hev,g9];rfl) hW
 ·exact Rv.run (o:=eq_2) rfl rfl (Rv.want_free rfl) (by unfold eq_2;simp only[execOp,hev,g11];go_simp<;>rfl) hW
 ·have d79:Rv.ev a 79=.agg #[.slice (some ⟨G,0,none⟩) L c2]:=hd 0 (by decide)
  have d80:Rv.ev a 80=.slice ap np cp:=hd 1 (by decide)
  have d81:Rv.ev a 81=.agg #[x0,x1,x2,x3,x4,x5,x6]:=hd 2 (by decide)
  refine Rv.call (o:=eq_3) (f:=13) (vs:=#[.agg #[.slice (some ⟨G,0,none⟩) L c2],.slice ap np cp,.agg #[x0,x1,x2,x3,x4,x5,x6]]) rfl rfl (Rv.want_free rfl) ?_ hW (hc W hW)
  unfold eq_3
  simp only[execOp,resolve,invoke,Sem.run_bind,List.map_toArray,List.map_cons,List.map_nil,hev,hfn,d79,d80,d81]
  go_simp
 ·have d82:Rv.ev a 82=.tuple #[.int .i64 tt_,.int .i64 ee]:=hd 3 (by decide)
  exact Rv.run (o:=eq_4) rfl rfl (Rv.want_free rfl) (by unfold eq_4;simp only[execOp,hev,d82];rfl) hW
 ·have d78:Rv.ev a 78=.tuple #[.int .i64 tt_,.int .i64 ee]:=hd 4 (by decide)
  exact Rv.run (o:=eq_5) rfl rfl (Rv.want_free rfl) (by unfold eq_5;simp only[execOp,hev,d78];rfl) hW
 ·have d78:Rv.ev a 78=.tuple #[.int .i64 tt_,.int .i64 ee]:=hd 4 (by decide)
  exact Rv.run (o:=eq_6) rfl rfl (Rv.want_free rfl) (by unfold eq_6;simp only[execOp,hev,d78];rfl) hW
 ·have d83:Rv.ev a 83=.int .i64 tt_:=hd 5 (by decide)
  exact Rv.run (o:=eq_7) rfl rfl (Rv.want_free rfl) (by unfold eq_7;simp only[execOp,hev,d83];rfl) hW
 ·have d84:Rv.ev a 84=.int .i64 ee:=hd 6 (by decide)
  exact Rv.run (o:=eq_8) rfl rfl (Rv.want_free rfl) (by unfold eq_8;simp only[execOp,hev,d84];rfl) hW
end
def er_0 : Oper := { dst := some 86, op := Op.load 26 (Operand.tmp 7), type := 26, pos := "law.go:97", after := #[], guard := none }
def er_1 : Oper := { dst := some 87, op := Op.move (Operand.tmp 9), type := 34, pos := "law.go:97", after := #[], guard := none }
def er_2 : Oper := { dst := some 88, op := Op.load 40 (Operand.tmp 12), type := 40, pos := "law.go:97", after := #[], guard := none }
def er_3 : Oper := { dst := some 89, op := Op.call { callee := Callee.value (Operand.func 13), args := #[Operand.tmp 86, Operand.tmp 87, Operand.tmp 88], argTypes := #[26, 34, 40] }, type := 43, pos := "law.go:97", after := #[{ on := 0, ground := Ground.data }, { on := 1, ground := Ground.data }, { on := 2, ground := Ground.data }], guard := none }
def er_4 : Oper := { dst := some 85, op := Op.move (Operand.tmp 89), type := 43, pos := "law.go:97", after := #[{ on := 3, ground := Ground.data }], guard := none }
def er_5 : Oper := { dst := some 90, op := Op.extract (Operand.tmp 85) 0, type := 35, pos := "law.go:97", after := #[{ on := 4, ground := Ground.data }], guard := none }
def er_6 : Oper := { dst := some 91, op := Op.extract (Operand.tmp 85) 1, type := 29, pos := "law.go:97", after := #[{ on := 4, ground := Ground.data }, { on := 7, ground := Ground.gcOnly Departure.lateStores }], guard := none }
def er_7 : Oper := { dst := some 17, op := Op.assign (Operand.tmp 90), type := 35, pos := "law.go:97", after := #[{ on := 5, ground := Ground.data }, { on := 3, ground := Ground.chain }, { on := 0, ground := Ground.phase }, { on := 1, ground := Ground.phase }, { on := 2, ground := Ground.phase }, { on := 3, ground := Ground.phase }, { on := 4, ground := Ground.phase }, { on := 5, ground := Ground.phase }, { on := 6, ground := Ground.textOnly Departure.lateStores }], guard := none }
def er_8 : Oper := { dst := some 18, op := Op.assign (Operand.tmp 91), type := 29, pos := "law.go:97", after := #[{ on := 6, ground := Ground.data }, { on := 7, ground := Ground.chain }, { on := 0, ground := Ground.phase }, { on := 1, ground := Ground.phase }, { on := 2, ground := Ground.phase }, { on := 3, ground := Ground.phase }, { on := 4, ground := Ground.phase }, { on := 5, ground := Ground.phase }, { on := 6, ground := Ground.phase }, { on := 7, ground := Ground.phase }], guard := none }
def er_ops:Array Oper:=#[er_0,er_1,er_2,er_3,er_4,er_5,er_6,er_7,er_8]
def er_sl (k:Nat):Nat:=if k=4 then 85 else if k=5 then 90 else if k=6 then 91 else if k=7 then 17 else if k=8 then 18 else 86+k
def er_V (G L c2 np cp:Nat) (ap:Option Addr) (tt_ ee:Int) (x0 x1 x2 x3 x4 x5 x6:Value):Nat→Value
 |0=>.agg #[.slice (some ⟨G,0,none⟩) L c2]
 |1=>.slice ap np cp
 |2=>.agg #[x0,x1,x2,x3,x4,x5,x6]
 |3=>.tuple #[.int .i64 tt_,.int .i64 ee]
 |4=>.tuple #[.int .i64 tt_,.int .i64 ee]
 |5=>.int .i64 tt_
 |6=>.int .i64 ee
 |7=>.int .i64 tt_
 |_=>.int .i64 ee
section
variable {Q:Exit→Act→World→Prop} {X0 w0:World} {a0:Act}
set_option maxHeartbeats 4000000 in
theorem turn12 {b7 bx G L c2 np cp:Nat} {ap:Option Addr} {tt_ ee:Int} {x0 x1 x2 x3 x4 x5 x6:Value} (h1:∀ w,Below X0.heap.size X0 w→w.cell? ⟨b7,0,none⟩=some (.slice (some ⟨G,0,none⟩) L c2)) (hx:∀ w,Below X0.heap.size X0 w→w.cell? ⟨bx,0,none⟩=some x0∧w.cell? ⟨bx,1,none⟩=some x1∧w.cell? ⟨bx,2,none⟩=some x2∧w.cell? ⟨bx,3,none⟩=some x3∧w.cell? ⟨bx,4,none⟩=some x4∧w.cell? ⟨bx,5,none⟩=some x5∧w.cell? ⟨bx,6,none⟩=some x6)
  (hc:∀ w,Below X0.heap.size X0 w→Calls Try.prog 13 #[.agg #[.slice (some ⟨G,0,none⟩) L c2],.slice ap np cp,.agg #[x0,x1,x2,x3,x4,x5,x6]] w fun e w'=>e=.returned (.tuple #[.int .i64 tt_,.int .i64 ee])∧Below w.heap.size w w') (hs:251≤a0.tmps.size)
  (e7:Rv.ev a0 7=.pointer (some ⟨b7,0,none⟩))
  (e9:Rv.ev a0 9=.slice ap np cp)
  (e12:Rv.ev a0 12=.pointer (some ⟨bx,0,none⟩))
  (hw:Below X0.heap.size X0 w0)
  (hQ:∀ a w,Rv.Off 9 er_sl a0 a→Below X0.heap.size X0 w→(∀ j,j<9→Rv.ev a (er_sl j)=(er_V G L c2 np cp ap tt_ ee x0 x1 x2 x3 x4 x5 x6) j)→Q .normal a w) :
  wpList Try.prog er_ops Q er_ops.toList a0 w0:=by
 refine Rv.list (X0:=X0) 9 er_sl (er_V G L c2 np cp ap tt_ ee x0 x1 x2 x3 x4 x5 x6) rfl (by decide) (by decide) (fun j hj=>Nat.lt_of_lt_of_le ((by decide:∀ j,j<9→er_sl j<251) j hj) hs) hw ?_ hQ
 intro i a W hi hO hW hd
 have hev:∀ j,a.eval (.tmp j)=Rv.ev a j:=fun _=>rfl
 have hcn:∀ v,a.eval (.const v)=v:=fun _=>rfl
 have hfn:∀ v,a.eval (.func v)=.func (.func v) #[] #[]:=fun _=>rfl
 have hsz:∀ k,k<251→k<a.tmps.size:=fun k hk=>by rw[hO.size];omega
 have g7:Rv.ev a 7=.pointer (some ⟨b7,0,none⟩):=(hO.same 7 (by decide)).trans e7
 have g9:Rv.ev a 9=.slice ap np cp:=(hO.same 9 (by decide)).trans e9
 have g12:Rv.ev a 12=.pointer (some ⟨bx,0,none⟩):=(hO.same 12 (by decide)).trans e12
 have k1:=h1 W hW
 obtain⟨k2,k3,k4,k5,k6,k7,k8⟩:=hx W hW
 have hN:i=0∨i=1∨i=2∨i=3∨i=4∨i=5∨i=6∨i=7∨i=8:=by omega
 rcases hN with rfl|rfl|rfl|rfl|rfl|rfl|rfl|rfl|rfl
 ·exact Rv.run (o:=er_0) rfl rfl (Rv.want_free rfl) (by unfold er_0;simp only[execOp,hev,g7];go_simp<;>rfl) hW
 ·exact Rv.run (o:=er_1) rfl rfl (Rv.want_free rfl) (by unfold er_1;simp only[execOp,hev,g9];rfl) hW
 ·exact Rv.run (o:=er_2) rfl rfl (Rv.want_free rfl) (by unfold er_2;simp only[execOp,hev,g12];go_simp<;>rfl) hW
 ·have d86:Rv.ev a 86=.agg #[.slice (some ⟨G,0,none⟩) L c2]:=hd 0 (by decide)
  have d87:Rv.ev a 87=.slice ap np cp:=hd 1 (by decide)
  have d88:Rv.ev a 88=.agg #[x0,x1,x2,x3,x4,x5,x6]:=hd 2 (by decide)
  refine Rv.call (o:=er_3) (f:=13) (vs:=#[.agg #[.slice (some ⟨G,0,none⟩) L c2],.slice ap np cp,.agg #[x0,x1,x2,x3,x4,x5,x6]]) rfl rfl (Rv.want_free rfl) ?_ hW (hc W hW)
  unfold er_3
  simp only[execOp,resolve,invoke,Sem.run_bind,List.map_toArray,List.map_cons,List.map_nil,hev,hfn,d86,d87,d88]
  go_simp
 ·have d89:Rv.ev a 89=.tuple #[.int .i64 tt_,.int .i64 ee]:=hd 3 (by decide)
  exact Rv.run (o:=er_4) rfl rfl (Rv.want_free rfl) (by unfold er_4;simp only[execOp,hev,d89];rfl) hW
 ·have d85:Rv.ev a 85=.tuple #[.int .i64 tt_,.int .i64 ee]:=hd 4 (by decide)
  exact Rv.run (o:=er_5) rfl rfl (Rv.want_free rfl) (by unfold er_5;simp only[execOp,hev,d85];rfl) hW
 ·have d85:Rv.ev a 85=.tuple #[.int .i64 tt_,.int .i64 ee]:=hd 4 (by decide)
  exact Rv.run (o:=er_6) rfl rfl (Rv.want_free rfl) (by unfold er_6;simp only[execOp,hev,d85];rfl) hW
 ·have d90:Rv.ev a 90=.int .i64 tt_:=hd 5 (by decide)
  exact Rv.run (o:=er_7) rfl rfl (Rv.want_free rfl) (by unfold er_7;simp only[execOp,hev,d90];rfl) hW
 ·have d91:Rv.ev a 91=.int .i64 ee:=hd 6 (by decide)
  exact Rv.run (o:=er_8) rfl rfl (Rv.want_free rfl) (by unfold er_8;simp only[execOp,hev,d91];rfl) hW
end
def es_0 : Oper := { dst := some 93, op := Op.load 26 (Operand.tmp 7), type := 26, pos := "law.go:98", after := #[], guard := none }
def es_1 : Oper := { dst := some 94, op := Op.move (Operand.tmp 9), type := 34, pos := "law.go:98", after := #[], guard := none }
def es_2 : Oper := { dst := some 95, op := Op.load 40 (Operand.tmp 10), type := 40, pos := "law.go:98", after := #[], guard := none }
def es_3 : Oper := { dst := some 96, op := Op.load 40 (Operand.tmp 11), type := 40, pos := "law.go:98", after := #[], guard := none }
def es_4 : Oper := { dst := some 97, op := Op.load 40 (Operand.tmp 12), type := 40, pos := "law.go:98", after := #[], guard := none }
def es_5 : Oper := { dst := some 98, op := Op.buildSlice 38 3 #[(0, Operand.tmp 95), (1, Operand.tmp 96), (2, Operand.tmp 97)], type := 38, pos := "law.go:98", after := #[{ on := 2, ground := Ground.data }, { on := 3, ground := Ground.data }, { on := 4, ground := Ground.data }], guard := none }
def es_6 : Oper := { dst := some 99, op := Op.build 40 #[(0, Operand.const (Value.int IntKind.i64 19)), (5, Operand.tmp 98)], type := 40, pos := "law.go:98", after := #[{ on := 5, ground := Ground.data }], guard := none }
def es_7 : Oper := { dst := some 100, op := Op.call { callee := Callee.value (Operand.func 13), args := #[Operand.tmp 93, Operand.tmp 94, Operand.tmp 99], argTypes := #[26, 34, 40] }, type := 43, pos := "law.go:98", after := #[{ on := 0, ground := Ground.data }, { on := 1, ground := Ground.data }, { on := 6, ground := Ground.data }], guard := none }
def es_8 : Oper := { dst := some 92, op := Op.move (Operand.tmp 100), type := 43, pos := "law.go:98", after := #[{ on := 7, ground := Ground.data }], guard := none }
def es_9 : Oper := { dst := some 101, op := Op.extract (Operand.tmp 92) 0, type := 35, pos := "law.go:98", after := #[{ on := 8, ground := Ground.data }], guard := none }
def es_10 : Oper := { dst := some 102, op := Op.extract (Operand.tmp 92) 1, type := 29, pos := "law.go:98", after := #[{ on := 8, ground := Ground.data }, { on := 11, ground := Ground.gcOnly Departure.lateStores }], guard := none }
def es_11 : Oper := { dst := some 19, op := Op.assign (Operand.tmp 101), type := 35, pos := "law.go:98", after := #[{ on := 9, ground := Ground.data }, { on := 7, ground := Ground.chain }, { on := 0, ground := Ground.phase }, { on := 1, ground := Ground.phase }, { on := 2, ground := Ground.phase }, { on := 3, ground := Ground.phase }, { on := 4, ground := Ground.phase }, { on := 5, ground := Ground.phase }, { on := 6, ground := Ground.phase }, { on := 7, ground := Ground.phase }, { on := 8, ground := Ground.phase }, { on := 9, ground := Ground.phase }, { on := 10, ground := Ground.textOnly Departure.lateStores }], guard := none }
def es_12 : Oper := { dst := some 20, op := Op.assign (Operand.tmp 102), type := 29, pos := "law.go:98", after := #[{ on := 10, ground := Ground.data }, { on := 11, ground := Ground.chain }, { on := 0, ground := Ground.phase }, { on := 1, ground := Ground.phase }, { on := 2, ground := Ground.phase }, { on := 3, ground := Ground.phase }, { on := 4, ground := Ground.phase }, { on := 5, ground := Ground.phase }, { on := 6, ground := Ground.phase }, { on := 7, ground := Ground.phase }, { on := 8, ground := Ground.phase }, { on := 9, ground := Ground.phase }, { on := 10, ground := Ground.phase }, { on := 11, ground := Ground.phase }], guard := none }
def es_ops:Array Oper:=#[es_0,es_1,es_2,es_3,es_4,es_5,es_6,es_7,es_8,es_9,es_10,es_11,es_12]
def es_sl (k:Nat):Nat:=if k=8 then 92 else if k=9 then 101 else if k=10 then 102 else if k=11 then 19 else if k=12 then 20 else 93+k
def es_V (HH G L c2 np cp:Nat) (ap:Option Addr) (tt_ ee:Int) (x0 x1 x2 x3 x4 x5 x6 y0 y1 y2 y3 y4 y5 y6 z0 z1 z2 z3 z4 z5 z6:Value):Nat→Value
 |0=>.agg #[.slice (some ⟨G,0,none⟩) L c2]
 |1=>.slice ap np cp
 |2=>.agg #[x0,x1,x2,x3,x4,x5,x6]
 |3=>.agg #[y0,y1,y2,y3,y4,y5,y6]
 |4=>.agg #[z0,z1,z2,z3,z4,z5,z6]
 |5=>.slice (some ⟨HH,0,none⟩) 3 3
 |6=>.agg #[.int .i64 19,.string ⟨#[]⟩,.string ⟨#[]⟩,.int .i64 0,.complex .f64 0 0,.slice (some ⟨HH,0,none⟩) 3 3,.int .i64 0]
 |7=>.tuple #[.int .i64 tt_,.int .i64 ee]
 |8=>.tuple #[.int .i64 tt_,.int .i64 ee]
 |9=>.int .i64 tt_
 |10=>.int .i64 ee
 |11=>.int .i64 tt_
 |_=>.int .i64 ee
section
variable {Q:Exit→Act→World→Prop} {X0:World} {a0:Act}
set_option maxHeartbeats 4000000 in
theorem turn13 {b7 Bx By Bz G L c2 np cp:Nat} {ap:Option Addr} {tt_ ee:Int} {x0 x1 x2 x3 x4 x5 x6 y0 y1 y2 y3 y4 y5 y6 z0 z1 z2 z3 z4 z5 z6:Value} (h1:X0.cell? ⟨b7,0,none⟩=some (.slice (some ⟨G,0,none⟩) L c2))
  (hx:X0.cell? ⟨Bx,0,none⟩=some x0∧X0.cell? ⟨Bx,1,none⟩=some x1∧X0.cell? ⟨Bx,2,none⟩=some x2∧X0.cell? ⟨Bx,3,none⟩=some x3∧X0.cell? ⟨Bx,4,none⟩=some x4∧X0.cell? ⟨Bx,5,none⟩=some x5∧X0.cell? ⟨Bx,6,none⟩=some x6)
  (hy:X0.cell? ⟨By,0,none⟩=some y0∧X0.cell? ⟨By,1,none⟩=some y1∧X0.cell? ⟨By,2,none⟩=some y2∧X0.cell? ⟨By,3,none⟩=some y3∧X0.cell? ⟨By,4,none⟩=some y4∧X0.cell? ⟨By,5,none⟩=some y5∧X0.cell? ⟨By,6,none⟩=some y6)
  (hz:X0.cell? ⟨Bz,0,none⟩=some z0∧X0.cell? ⟨Bz,1,none⟩=some z1∧X0.cell? ⟨Bz,2,none⟩=some z2∧X0.cell? ⟨Bz,3,none⟩=some z3∧X0.cell? ⟨Bz,4,none⟩=some z4∧X0.cell? ⟨Bz,5,none⟩=some z5∧X0.cell? ⟨Bz,6,none⟩=some z6)
  (hc:Calls Try.prog 13 #[.agg #[.slice (some ⟨G,0,none⟩) L c2],.slice ap np cp,.agg #[.int .i64 19,.string ⟨#[]⟩,.string ⟨#[]⟩,.int .i64 0,.complex .f64 0 0,.slice (some ⟨X0.heap.size,0,none⟩) 3 3,.int .i64 0]] (X0.alloc (.cells #[x0,x1,x2,x3,x4,x5,x6,y0,y1,y2,y3,y4,y5,y6,z0,z1,z2,z3,z4,z5,z6] 40)) fun e w'=>e=.returned (.tuple #[.int .i64 tt_,.int .i64 ee])∧Below (X0.alloc (.cells #[x0,x1,x2,x3,x4,x5,x6,y0,y1,y2,y3,y4,y5,y6,z0,z1,z2,z3,z4,z5,z6] 40)).heap.size (X0.alloc (.cells #[x0,x1,x2,x3,x4,x5,x6,y0,y1,y2,y3,y4,y5,y6,z0,z1,z2,z3,z4,z5,z6] 40)) w') (hs:251≤a0.tmps.size)
  (e7:Rv.ev a0 7=.pointer (some ⟨b7,0,none⟩)) (e9:Rv.ev a0 9=.slice ap np cp) (e10:Rv.ev a0 10=.pointer (some ⟨Bx,0,none⟩)) (e11:Rv.ev a0 11=.pointer (some ⟨By,0,none⟩)) (e12:Rv.ev a0 12=.pointer (some ⟨Bz,0,none⟩))
  (hQ:∀ a w,Rv.Off 13 es_sl a0 a→Below (X0.alloc (.cells #[x0,x1,x2,x3,x4,x5,x6,y0,y1,y2,y3,y4,y5,y6,z0,z1,z2,z3,z4,z5,z6] 40)).heap.size (X0.alloc (.cells #[x0,x1,x2,x3,x4,x5,x6,y0,y1,y2,y3,y4,y5,y6,z0,z1,z2,z3,z4,z5,z6] 40)) w→(∀ j,j<13→Rv.ev a (es_sl j)=(es_V X0.heap.size G L c2 np cp ap tt_ ee x0 x1 x2 x3 x4 x5 x6 y0 y1 y2 y3 y4 y5 y6 z0 z1 z2 z3 z4 z5 z6) j)→Q .normal a w) :
  wpList Try.prog es_ops Q es_ops.toList a0 X0:=by
 refine Rv.listJ 13 es_sl (es_V X0.heap.size G L c2 np cp ap tt_ ee x0 x1 x2 x3 x4 x5 x6 y0 y1 y2 y3 y4 y5 y6 z0 z1 z2 z3 z4 z5 z6) (fun i w=>(i≤5∧X0=w)∨(5<i∧i≤7∧(X0.alloc (.cells #[x0,x1,x2,x3,x4,x5,x6,y0,y1,y2,y3,y4,y5,y6,z0,z1,z2,z3,z4,z5,z6] 40))=w)∨(7<i∧Below (X0.alloc (.cells #[x0,x1,x2,x3,x4,x5,x6,y0,y1,y2,y3,y4,y5,y6,z0,z1,z2,z3,z4,z5,z6] 40)).heap.size (X0.alloc (.cells #[x0,x1,x2,x3,x4,x5,x6,y0,y1,y2,y3,y4,y5,y6,z0,z1,z2,z3,z4,z5,z6] 40)) w)) rfl (by decide) (fun j hj=>Nat.lt_of_lt_of_le ((by decide:∀ j,j<13→es_sl j<251) j hj) hs) (.inl ⟨by decide,rfl⟩) ?_ ?_
 ·intro i a W hi hO hJ hd
  have hev:∀ j,a.eval (.tmp j)=Rv.ev a j:=fun _=>rfl
  have hcn:∀ v,a.eval (.const v)=v:=fun _=>rfl
  have hfn:∀ v,a.eval (.func v)=.func (.func v) #[] #[]:=fun _=>rfl
  have g7:Rv.ev a 7=.pointer (some ⟨b7,0,none⟩):=(hO.same 7 (by decide)).trans e7
  have g9:Rv.ev a 9=.slice ap np cp:=(hO.same 9 (by decide)).trans e9
  have g10:Rv.ev a 10=.pointer (some ⟨Bx,0,none⟩):=(hO.same 10 (by decide)).trans e10
  obtain⟨xc0,xc1,xc2,xc3,xc4,xc5,xc6⟩:=hx
  have g11:Rv.ev a 11=.pointer (some ⟨By,0,none⟩):=(hO.same 11 (by decide)).trans e11
  obtain⟨yc0,yc1,yc2,yc3,yc4,yc5,yc6⟩:=hy
  have g12:Rv.ev a 12=.pointer (some ⟨Bz,0,none⟩):=(hO.same 12 (by decide)).trans e12
  obtain⟨zc0,zc1,zc2,zc3,zc4,zc5,zc6⟩:=hz
  have hN:i=0∨i=1∨i=2∨i=3∨i=4∨i=5∨i=6∨i=7∨i=8∨i=9∨i=10∨i=11∨i=12:=by omega
  rcases hN with rfl|rfl|rfl|rfl|rfl|rfl|rfl|rfl|rfl|rfl|rfl|rfl|rfl
  ·rcases hJ with⟨_,rfl⟩|⟨h,h2,_⟩|⟨h,_⟩
   ·exact Rv.runJ (o:=es_0) rfl rfl (Rv.want_free rfl) (by unfold es_0;simp only[execOp,hev,g7];go_simp<;>rfl) (.inl ⟨by decide,rfl⟩)
   ·exact absurd h (by decide)
   ·exact absurd h (by decide)
  ·rcases hJ with⟨_,rfl⟩|⟨h,h2,_⟩|⟨h,_⟩
   ·exact Rv.runJ (o:=es_1) rfl rfl (Rv.want_free rfl) (by unfold es_1;simp only[execOp,hev,g9];rfl) (.inl ⟨by decide,rfl⟩)
   ·exact absurd h (by decide)
   ·exact absurd h (by decide)
  ·rcases hJ with⟨_,rfl⟩|⟨h,h2,_⟩|⟨h,_⟩
   ·exact Rv.runJ (o:=es_2) rfl rfl (Rv.want_free rfl) (by unfold es_2;simp only[execOp,hev,g10];go_simp<;>rfl) (.inl ⟨by decide,rfl⟩)
   ·exact absurd h (by decide)
   ·exact absurd h (by decide)
  ·rcases hJ with⟨_,rfl⟩|⟨h,h2,_⟩|⟨h,_⟩
   ·exact Rv.runJ (o:=es_3) rfl rfl (Rv.want_free rfl) (by unfold es_3;simp only[execOp,hev,g11];go_simp<;>rfl) (.inl ⟨by decide,rfl⟩)
   ·exact absurd h (by decide)
   ·exact absurd h (by decide)
  ·rcases hJ with⟨_,rfl⟩|⟨h,h2,_⟩|⟨h,_⟩
   ·exact Rv.runJ (o:=es_4) rfl rfl (Rv.want_free rfl) (by unfold es_4;simp only[execOp,hev,g12];go_simp<;>rfl) (.inl ⟨by decide,rfl⟩)
   ·exact absurd h (by decide)
   ·exact absurd h (by decide)
  ·rcases hJ with⟨_,rfl⟩|⟨h,h2,_⟩|⟨h,_⟩
   ·have d95:Rv.ev a 95=.agg #[x0,x1,x2,x3,x4,x5,x6]:=hd 2 (by decide)
    have d96:Rv.ev a 96=.agg #[y0,y1,y2,y3,y4,y5,y6]:=hd 3 (by decide)
    have d97:Rv.ev a 97=.agg #[z0,z1,z2,z3,z4,z5,z6]:=hd 4 (by decide)
    exact Rv.runJ (o:=es_5) rfl rfl (Rv.want_free rfl) (by unfold es_5;simp only[execOp,List.map_toArray,List.map_cons,List.map_nil,hev,d95,d96,d97];go_simp<;>rfl) (.inr (.inl ⟨by decide,by decide,rfl⟩))
   ·exact absurd h (by decide)
   ·exact absurd h (by decide)
  ·rcases hJ with⟨h,_⟩|⟨_,_,rfl⟩|⟨h,_⟩
   ·exact absurd h (by decide)
   ·have d98:Rv.ev a 98=.slice (some ⟨X0.heap.size,0,none⟩) 3 3:=hd 5 (by decide)
    exact Rv.runJ (o:=es_6) rfl rfl (Rv.want_free rfl) (by unfold es_6;simp only[execOp,List.map_toArray,List.map_cons,List.map_nil,hev,hcn,d98];go_simp<;>rfl) (.inr (.inl ⟨by decide,by decide,rfl⟩))
   ·exact absurd h (by decide)
  ·rcases hJ with⟨h,_⟩|⟨_,_,rfl⟩|⟨h,_⟩
   ·exact absurd h (by decide)
   ·have d93:Rv.ev a 93=.agg #[.slice (some ⟨G,0,none⟩) L c2]:=hd 0 (by decide)
    have d94:Rv.ev a 94=.slice ap np cp:=hd 1 (by decide)
    have d99:Rv.ev a 99=.agg #[.int .i64 19,.string ⟨#[]⟩,.string ⟨#[]⟩,.int .i64 0,.complex .f64 0 0,.slice (some ⟨X0.heap.size,0,none⟩) 3 3,.int .i64 0]:=hd 6 (by decide)
    refine Rv.callJ (o:=es_7) (f:=13) (vs:=#[.agg #[.slice (some ⟨G,0,none⟩) L c2],.slice ap np cp,.agg #[.int .i64 19,.string ⟨#[]⟩,.string ⟨#[]⟩,.int .i64 0,.complex .f64 0 0,.slice (some ⟨X0.heap.size,0,none⟩) 3 3,.int .i64 0]]) rfl rfl (Rv.want_free rfl) ?_ (hc.mono fun e w' h=>⟨h.1,.inr (.inr ⟨by decide,h.2⟩)⟩)
    unfold es_7
    simp only[execOp,resolve,invoke,Sem.run_bind,List.map_toArray,List.map_cons,List.map_nil,hev,hfn,d93,d94,d99]
    go_simp
   ·exact absurd h (by decide)
  ·rcases hJ with⟨h,_⟩|⟨h,h2,_⟩|⟨_,hB⟩
   ·exact absurd h (by decide)
   ·exact absurd h2 (by decide)
   ·have d100:Rv.ev a 100=.tuple #[.int .i64 tt_,.int .i64 ee]:=hd 7 (by decide)
    exact Rv.runJ (o:=es_8) rfl rfl (Rv.want_free rfl) (by unfold es_8;simp only[execOp,hev,d100];rfl) (.inr (.inr ⟨by decide,hB⟩))
  ·rcases hJ with⟨h,_⟩|⟨h,h2,_⟩|⟨_,hB⟩
   ·exact absurd h (by decide)
   ·exact absurd h2 (by decide)
   ·have d92:Rv.ev a 92=.tuple #[.int .i64 tt_,.int .i64 ee]:=hd 8 (by decide)
    exact Rv.runJ (o:=es_9) rfl rfl (Rv.want_free rfl) (by unfold es_9;simp only[execOp,hev,d92];rfl) (.inr (.inr ⟨by decide,hB⟩))
  ·rcases hJ with⟨h,_⟩|⟨h,h2,_⟩|⟨_,hB⟩
   ·exact absurd h (by decide)
   ·exact absurd h2 (by decide)
   ·have d92:Rv.ev a 92=.tuple #[.int .i64 tt_,.int .i64 ee]:=hd 8 (by decide)
    exact Rv.runJ (o:=es_10) rfl rfl (Rv.want_free rfl) (by unfold es_10;simp only[execOp,hev,d92];rfl) (.inr (.inr ⟨by decide,hB⟩))
  ·rcases hJ with⟨h,_⟩|⟨h,h2,_⟩|⟨_,hB⟩
   ·exact absurd h (by decide)
   ·exact absurd h2 (by decide)
   ·have d101:Rv.ev a 101=.int .i64 tt_:=hd 9 (by decide)
    exact Rv.runJ (o:=es_11) rfl rfl (Rv.want_free rfl) (by unfold es_11;simp only[execOp,hev,d101];rfl) (.inr (.inr ⟨by decide,hB⟩))
  ·rcases hJ with⟨h,_⟩|⟨h,h2,_⟩|⟨_,hB⟩
   ·exact absurd h (by decide)
   ·exact absurd h2 (by decide)
   ·have d102:Rv.ev a 102=.int .i64 ee:=hd 10 (by decide)
    exact Rv.runJ (o:=es_12) rfl rfl (Rv.want_free rfl) (by unfold es_12;simp only[execOp,hev,d102];rfl) (.inr (.inr ⟨by decide,hB⟩))
 ·intro a W hO hJ hv
  rcases hJ with⟨h,_⟩|⟨_,h,_⟩|⟨_,hB⟩
  ·exact absurd h (by decide)
  ·exact absurd h (by decide)
  ·exact hQ a W hO hB hv
end
def et_0 : Oper := { dst := some 135, op := Op.load 26 (Operand.tmp 7), type := 26, pos := "law.go:102", after := #[], guard := none }
def et_1 : Oper := { dst := some 136, op := Op.move (Operand.tmp 9), type := 34, pos := "law.go:102", after := #[], guard := none }
def et_2 : Oper := { dst := some 137, op := Op.load 40 (Operand.tmp 10), type := 40, pos := "law.go:102", after := #[], guard := none }
def et_3 : Oper := { dst := some 138, op := Op.load 40 (Operand.tmp 11), type := 40, pos := "law.go:102", after := #[], guard := none }
def et_4 : Oper := { dst := some 139, op := Op.buildSlice 38 2 #[(0, Operand.tmp 137), (1, Operand.tmp 138)], type := 38, pos := "law.go:102", after := #[{ on := 2, ground := Ground.data }, { on := 3, ground := Ground.data }], guard := none }
def et_5 : Oper := { dst := some 140, op := Op.build 40 #[(0, Operand.const (Value.int IntKind.i64 18)), (5, Operand.tmp 139)], type := 40, pos := "law.go:102", after := #[{ on := 4, ground := Ground.data }], guard := none }
def et_6 : Oper := { dst := some 141, op := Op.call { callee := Callee.value (Operand.func 13), args := #[Operand.tmp 135, Operand.tmp 136, Operand.tmp 140], argTypes := #[26, 34, 40] }, type := 43, pos := "law.go:102", after := #[{ on := 0, ground := Ground.data }, { on := 1, ground := Ground.data }, { on := 5, ground := Ground.data }], guard := none }
def et_7 : Oper := { dst := some 134, op := Op.move (Operand.tmp 141), type := 43, pos := "law.go:102", after := #[{ on := 6, ground := Ground.data }], guard := none }
def et_8 : Oper := { dst := some 142, op := Op.extract (Operand.tmp 134) 0, type := 35, pos := "law.go:102", after := #[{ on := 7, ground := Ground.data }], guard := none }
def et_9 : Oper := { dst := some 143, op := Op.extract (Operand.tmp 134) 1, type := 29, pos := "law.go:102", after := #[{ on := 7, ground := Ground.data }, { on := 10, ground := Ground.gcOnly Departure.lateStores }], guard := none }
def et_10 : Oper := { dst := some 19, op := Op.assign (Operand.tmp 142), type := 35, pos := "law.go:102", after := #[{ on := 8, ground := Ground.data }, { on := 6, ground := Ground.chain }, { on := 0, ground := Ground.phase }, { on := 1, ground := Ground.phase }, { on := 2, ground := Ground.phase }, { on := 3, ground := Ground.phase }, { on := 4, ground := Ground.phase }, { on := 5, ground := Ground.phase }, { on := 6, ground := Ground.phase }, { on := 7, ground := Ground.phase }, { on := 8, ground := Ground.phase }, { on := 9, ground := Ground.textOnly Departure.lateStores }], guard := none }
def et_11 : Oper := { dst := some 20, op := Op.assign (Operand.tmp 143), type := 29, pos := "law.go:102", after := #[{ on := 9, ground := Ground.data }, { on := 10, ground := Ground.chain }, { on := 0, ground := Ground.phase }, { on := 1, ground := Ground.phase }, { on := 2, ground := Ground.phase }, { on := 3, ground := Ground.phase }, { on := 4, ground := Ground.phase }, { on := 5, ground := Ground.phase }, { on := 6, ground := Ground.phase }, { on := 7, ground := Ground.phase }, { on := 8, ground := Ground.phase }, { on := 9, ground := Ground.phase }, { on := 10, ground := Ground.phase }], guard := none }
def et_ops:Array Oper:=#[et_0,et_1,et_2,et_3,et_4,et_5,et_6,et_7,et_8,et_9,et_10,et_11]
def et_sl (k:Nat):Nat:=if k=7 then 134 else if k=8 then 142 else if k=9 then 143 else if k=10 then 19 else if k=11 then 20 else 135+k
def et_V (HH G L c2 np cp:Nat) (ap:Option Addr) (tt_ ee:Int) (x0 x1 x2 x3 x4 x5 x6 y0 y1 y2 y3 y4 y5 y6:Value):Nat→Value
 |0=>.agg #[.slice (some ⟨G,0,none⟩) L c2]
 |1=>.slice ap np cp
 |2=>.agg #[x0,x1,x2,x3,x4,x5,x6]
 |3=>.agg #[y0,y1,y2,y3,y4,y5,y6]
 |4=>.slice (some ⟨HH,0,none⟩) 2 2
 |5=>.agg #[.int .i64 18,.string ⟨#[]⟩,.string ⟨#[]⟩,.int .i64 0,.complex .f64 0 0,.slice (some ⟨HH,0,none⟩) 2 2,.int .i64 0]
 |6=>.tuple #[.int .i64 tt_,.int .i64 ee]
 |7=>.tuple #[.int .i64 tt_,.int .i64 ee]
 |8=>.int .i64 tt_
 |9=>.int .i64 ee
 |10=>.int .i64 tt_
 |_=>.int .i64 ee
section
variable {Q:Exit→Act→World→Prop} {X0:World} {a0:Act}
set_option maxHeartbeats 4000000 in
theorem turn16 {b7 Bx By G L c2 np cp:Nat} {ap:Option Addr} {tt_ ee:Int} {x0 x1 x2 x3 x4 x5 x6 y0 y1 y2 y3 y4 y5 y6:Value} (h1:X0.cell? ⟨b7,0,none⟩=some (.slice (some ⟨G,0,none⟩) L c2))
  (hx:X0.cell? ⟨Bx,0,none⟩=some x0∧X0.cell? ⟨Bx,1,none⟩=some x1∧X0.cell? ⟨Bx,2,none⟩=some x2∧X0.cell? ⟨Bx,3,none⟩=some x3∧X0.cell? ⟨Bx,4,none⟩=some x4∧X0.cell? ⟨Bx,5,none⟩=some x5∧X0.cell? ⟨Bx,6,none⟩=some x6)
  (hy:X0.cell? ⟨By,0,none⟩=some y0∧X0.cell? ⟨By,1,none⟩=some y1∧X0.cell? ⟨By,2,none⟩=some y2∧X0.cell? ⟨By,3,none⟩=some y3∧X0.cell? ⟨By,4,none⟩=some y4∧X0.cell? ⟨By,5,none⟩=some y5∧X0.cell? ⟨By,6,none⟩=some y6)
  (hc:Calls Try.prog 13 #[.agg #[.slice (some ⟨G,0,none⟩) L c2],.slice ap np cp,.agg #[.int .i64 18,.string ⟨#[]⟩,.string ⟨#[]⟩,.int .i64 0,.complex .f64 0 0,.slice (some ⟨X0.heap.size,0,none⟩) 2 2,.int .i64 0]] (X0.alloc (.cells #[x0,x1,x2,x3,x4,x5,x6,y0,y1,y2,y3,y4,y5,y6] 40)) fun e w'=>e=.returned (.tuple #[.int .i64 tt_,.int .i64 ee])∧Below (X0.alloc (.cells #[x0,x1,x2,x3,x4,x5,x6,y0,y1,y2,y3,y4,y5,y6] 40)).heap.size (X0.alloc (.cells #[x0,x1,x2,x3,x4,x5,x6,y0,y1,y2,y3,y4,y5,y6] 40)) w') (hs:251≤a0.tmps.size)
  (e7:Rv.ev a0 7=.pointer (some ⟨b7,0,none⟩)) (e9:Rv.ev a0 9=.slice ap np cp) (e10:Rv.ev a0 10=.pointer (some ⟨Bx,0,none⟩)) (e11:Rv.ev a0 11=.pointer (some ⟨By,0,none⟩))
  (hQ:∀ a w,Rv.Off 12 et_sl a0 a→Below (X0.alloc (.cells #[x0,x1,x2,x3,x4,x5,x6,y0,y1,y2,y3,y4,y5,y6] 40)).heap.size (X0.alloc (.cells #[x0,x1,x2,x3,x4,x5,x6,y0,y1,y2,y3,y4,y5,y6] 40)) w→(∀ j,j<12→Rv.ev a (et_sl j)=(et_V X0.heap.size G L c2 np cp ap tt_ ee x0 x1 x2 x3 x4 x5 x6 y0 y1 y2 y3 y4 y5 y6) j)→Q .normal a w) :
  wpList Try.prog et_ops Q et_ops.toList a0 X0:=by
 refine Rv.listJ 12 et_sl (et_V X0.heap.size G L c2 np cp ap tt_ ee x0 x1 x2 x3 x4 x5 x6 y0 y1 y2 y3 y4 y5 y6) (fun i w=>(i≤4∧X0=w)∨(4<i∧i≤6∧(X0.alloc (.cells #[x0,x1,x2,x3,x4,x5,x6,y0,y1,y2,y3,y4,y5,y6] 40))=w)∨(6<i∧Below (X0.alloc (.cells #[x0,x1,x2,x3,x4,x5,x6,y0,y1,y2,y3,y4,y5,y6] 40)).heap.size (X0.alloc (.cells #[x0,x1,x2,x3,x4,x5,x6,y0,y1,y2,y3,y4,y5,y6] 40)) w)) rfl (by decide) (fun j hj=>Nat.lt_of_lt_of_le ((by decide:∀ j,j<12→et_sl j<251) j hj) hs) (.inl ⟨by decide,rfl⟩) ?_ ?_
 ·intro i a W hi hO hJ hd
  have hev:∀ j,a.eval (.tmp j)=Rv.ev a j:=fun _=>rfl
  have hcn:∀ v,a.eval (.const v)=v:=fun _=>rfl
  have hfn:∀ v,a.eval (.func v)=.func (.func v) #[] #[]:=fun _=>rfl
  have g7:Rv.ev a 7=.pointer (some ⟨b7,0,none⟩):=(hO.same 7 (by decide)).trans e7
  have g9:Rv.ev a 9=.slice ap np cp:=(hO.same 9 (by decide)).trans e9
  have g10:Rv.ev a 10=.pointer (some ⟨Bx,0,none⟩):=(hO.same 10 (by decide)).trans e10
  obtain⟨xc0,xc1,xc2,xc3,xc4,xc5,xc6⟩:=hx
  have g11:Rv.ev a 11=.pointer (some ⟨By,0,none⟩):=(hO.same 11 (by decide)).trans e11
  obtain⟨yc0,yc1,yc2,yc3,yc4,yc5,yc6⟩:=hy
  have hN:i=0∨i=1∨i=2∨i=3∨i=4∨i=5∨i=6∨i=7∨i=8∨i=9∨i=10∨i=11:=by omega
  rcases hN with rfl|rfl|rfl|rfl|rfl|rfl|rfl|rfl|rfl|rfl|rfl|rfl
  ·rcases hJ with⟨_,rfl⟩|⟨h,h2,_⟩|⟨h,_⟩
   ·exact Rv.runJ (o:=et_0) rfl rfl (Rv.want_free rfl) (by unfold et_0;simp only[execOp,hev,g7];go_simp<;>rfl) (.inl ⟨by decide,rfl⟩)
   ·exact absurd h (by decide)
   ·exact absurd h (by decide)
  ·rcases hJ with⟨_,rfl⟩|⟨h,h2,_⟩|⟨h,_⟩
   ·exact Rv.runJ (o:=et_1) rfl rfl (Rv.want_free rfl) (by unfold et_1;simp only[execOp,hev,g9];rfl) (.inl ⟨by decide,rfl⟩)
   ·exact absurd h (by decide)
   ·exact absurd h (by decide)
  ·rcases hJ with⟨_,rfl⟩|⟨h,h2,_⟩|⟨h,_⟩
   ·exact Rv.runJ (o:=et_2) rfl rfl (Rv.want_free rfl) (by unfold et_2;simp only[execOp,hev,g10];go_simp<;>rfl) (.inl ⟨by decide,rfl⟩)
   ·exact absurd h (by decide)
   ·exact absurd h (by decide)
  ·rcases hJ with⟨_,rfl⟩|⟨h,h2,_⟩|⟨h,_⟩
   ·exact Rv.runJ (o:=et_3) rfl rfl (Rv.want_free rfl) (by unfold et_3;simp only[execOp,hev,g11];go_simp<;>rfl) (.inl ⟨by decide,rfl⟩)
   ·exact absurd h (by decide)
   ·exact absurd h (by decide)
  ·rcases hJ with⟨_,rfl⟩|⟨h,h2,_⟩|⟨h,_⟩
   ·have d137:Rv.ev a 137=.agg #[x0,x1,x2,x3,x4,x5,x6]:=hd 2 (by decide)
    have d138:Rv.ev a 138=.agg #[y0,y1,y2,y3,y4,y5,y6]:=hd 3 (by decide)
    exact Rv.runJ (o:=et_4) rfl rfl (Rv.want_free rfl) (by unfold et_4;simp only[execOp,List.map_toArray,List.map_cons,List.map_nil,hev,d137,d138];go_simp<;>rfl) (.inr (.inl ⟨by decide,by decide,rfl⟩))
   ·exact absurd h (by decide)
   ·exact absurd h (by decide)
  ·rcases hJ with⟨h,_⟩|⟨_,_,rfl⟩|⟨h,_⟩
   ·exact absurd h (by decide)
   ·have d139:Rv.ev a 139=.slice (some ⟨X0.heap.size,0,none⟩) 2 2:=hd 4 (by decide)
    exact Rv.runJ (o:=et_5) rfl rfl (Rv.want_free rfl) (by unfold et_5;simp only[execOp,List.map_toArray,List.map_cons,List.map_nil,hev,hcn,d139];go_simp<;>rfl) (.inr (.inl ⟨by decide,by decide,rfl⟩))
   ·exact absurd h (by decide)
  ·rcases hJ with⟨h,_⟩|⟨_,_,rfl⟩|⟨h,_⟩
   ·exact absurd h (by decide)
   ·have d135:Rv.ev a 135=.agg #[.slice (some ⟨G,0,none⟩) L c2]:=hd 0 (by decide)
    have d136:Rv.ev a 136=.slice ap np cp:=hd 1 (by decide)
    have d140:Rv.ev a 140=.agg #[.int .i64 18,.string ⟨#[]⟩,.string ⟨#[]⟩,.int .i64 0,.complex .f64 0 0,.slice (some ⟨X0.heap.size,0,none⟩) 2 2,.int .i64 0]:=hd 5 (by decide)
    refine Rv.callJ (o:=et_6) (f:=13) (vs:=#[.agg #[.slice (some ⟨G,0,none⟩) L c2],.slice ap np cp,.agg #[.int .i64 18,.string ⟨#[]⟩,.string ⟨#[]⟩,.int .i64 0,.complex .f64 0 0,.slice (some ⟨X0.heap.size,0,none⟩) 2 2,.int .i64 0]]) rfl rfl (Rv.want_free rfl) ?_ (hc.mono fun e w' h=>⟨h.1,.inr (.inr ⟨by decide,h.2⟩)⟩)
    unfold et_6
    simp only[execOp,resolve,invoke,Sem.run_bind,List.map_toArray,List.map_cons,List.map_nil,hev,hfn,d135,d136,d140]
    go_simp
   ·exact absurd h (by decide)
  ·rcases hJ with⟨h,_⟩|⟨h,h2,_⟩|⟨_,hB⟩
   ·exact absurd h (by decide)
   ·exact absurd h2 (by decide)
   ·have d141:Rv.ev a 141=.tuple #[.int .i64 tt_,.int .i64 ee]:=hd 6 (by decide)
    exact Rv.runJ (o:=et_7) rfl rfl (Rv.want_free rfl) (by unfold et_7;simp only[execOp,hev,d141];rfl) (.inr (.inr ⟨by decide,hB⟩))
  ·rcases hJ with⟨h,_⟩|⟨h,h2,_⟩|⟨_,hB⟩
   ·exact absurd h (by decide)
   ·exact absurd h2 (by decide)
   ·have d134:Rv.ev a 134=.tuple #[.int .i64 tt_,.int .i64 ee]:=hd 7 (by decide)
    exact Rv.runJ (o:=et_8) rfl rfl (Rv.want_free rfl) (by unfold et_8;simp only[execOp,hev,d134];rfl) (.inr (.inr ⟨by decide,hB⟩))
  ·rcases hJ with⟨h,_⟩|⟨h,h2,_⟩|⟨_,hB⟩
   ·exact absurd h (by decide)
   ·exact absurd h2 (by decide)
   ·have d134:Rv.ev a 134=.tuple #[.int .i64 tt_,.int .i64 ee]:=hd 7 (by decide)
    exact Rv.runJ (o:=et_9) rfl rfl (Rv.want_free rfl) (by unfold et_9;simp only[execOp,hev,d134];rfl) (.inr (.inr ⟨by decide,hB⟩))
  ·rcases hJ with⟨h,_⟩|⟨h,h2,_⟩|⟨_,hB⟩
   ·exact absurd h (by decide)
   ·exact absurd h2 (by decide)
   ·have d142:Rv.ev a 142=.int .i64 tt_:=hd 8 (by decide)
    exact Rv.runJ (o:=et_10) rfl rfl (Rv.want_free rfl) (by unfold et_10;simp only[execOp,hev,d142];rfl) (.inr (.inr ⟨by decide,hB⟩))
  ·rcases hJ with⟨h,_⟩|⟨h,h2,_⟩|⟨_,hB⟩
   ·exact absurd h (by decide)
   ·exact absurd h2 (by decide)
   ·have d143:Rv.ev a 143=.int .i64 ee:=hd 9 (by decide)
    exact Rv.runJ (o:=et_11) rfl rfl (Rv.want_free rfl) (by unfold et_11;simp only[execOp,hev,d143];rfl) (.inr (.inr ⟨by decide,hB⟩))
 ·intro a W hO hJ hv
  rcases hJ with⟨h,_⟩|⟨_,h,_⟩|⟨_,hB⟩
  ·exact absurd h (by decide)
  ·exact absurd h (by decide)
  ·exact hQ a W hO hB hv
end
def eu_0 : Oper := { dst := some 170, op := Op.load 26 (Operand.tmp 7), type := 26, pos := "law.go:106", after := #[], guard := none }
def eu_1 : Oper := { dst := some 171, op := Op.move (Operand.tmp 9), type := 34, pos := "law.go:106", after := #[], guard := none }
def eu_2 : Oper := { dst := some 172, op := Op.load 40 (Operand.tmp 10), type := 40, pos := "law.go:106", after := #[], guard := none }
def eu_3 : Oper := { dst := some 173, op := Op.load 40 (Operand.tmp 12), type := 40, pos := "law.go:106", after := #[], guard := none }
def eu_4 : Oper := { dst := some 174, op := Op.buildSlice 38 2 #[(0, Operand.tmp 172), (1, Operand.tmp 173)], type := 38, pos := "law.go:106", after := #[{ on := 2, ground := Ground.data }, { on := 3, ground := Ground.data }], guard := none }
def eu_5 : Oper := { dst := some 175, op := Op.build 40 #[(0, Operand.const (Value.int IntKind.i64 13)), (5, Operand.tmp 174)], type := 40, pos := "law.go:106", after := #[{ on := 4, ground := Ground.data }], guard := none }
def eu_6 : Oper := { dst := some 176, op := Op.call { callee := Callee.value (Operand.func 13), args := #[Operand.tmp 170, Operand.tmp 171, Operand.tmp 175], argTypes := #[26, 34, 40] }, type := 43, pos := "law.go:106", after := #[{ on := 0, ground := Ground.data }, { on := 1, ground := Ground.data }, { on := 5, ground := Ground.data }], guard := none }
def eu_7 : Oper := { dst := some 169, op := Op.move (Operand.tmp 176), type := 43, pos := "law.go:106", after := #[{ on := 6, ground := Ground.data }], guard := none }
def eu_8 : Oper := { dst := some 177, op := Op.extract (Operand.tmp 169) 0, type := 35, pos := "law.go:106", after := #[{ on := 7, ground := Ground.data }], guard := none }
def eu_9 : Oper := { dst := some 178, op := Op.extract (Operand.tmp 169) 1, type := 29, pos := "law.go:106", after := #[{ on := 7, ground := Ground.data }, { on := 10, ground := Ground.gcOnly Departure.lateStores }], guard := none }
def eu_10 : Oper := { dst := some 19, op := Op.assign (Operand.tmp 177), type := 35, pos := "law.go:106", after := #[{ on := 8, ground := Ground.data }, { on := 6, ground := Ground.chain }, { on := 0, ground := Ground.phase }, { on := 1, ground := Ground.phase }, { on := 2, ground := Ground.phase }, { on := 3, ground := Ground.phase }, { on := 4, ground := Ground.phase }, { on := 5, ground := Ground.phase }, { on := 6, ground := Ground.phase }, { on := 7, ground := Ground.phase }, { on := 8, ground := Ground.phase }, { on := 9, ground := Ground.textOnly Departure.lateStores }], guard := none }
def eu_11 : Oper := { dst := some 20, op := Op.assign (Operand.tmp 178), type := 29, pos := "law.go:106", after := #[{ on := 9, ground := Ground.data }, { on := 10, ground := Ground.chain }, { on := 0, ground := Ground.phase }, { on := 1, ground := Ground.phase }, { on := 2, ground := Ground.phase }, { on := 3, ground := Ground.phase }, { on := 4, ground := Ground.phase }, { on := 5, ground := Ground.phase }, { on := 6, ground := Ground.phase }, { on := 7, ground := Ground.phase }, { on := 8, ground := Ground.phase }, { on := 9, ground := Ground.phase }, { on := 10, ground := Ground.phase }], guard := none }
def eu_ops:Array Oper:=#[eu_0,eu_1,eu_2,eu_3,eu_4,eu_5,eu_6,eu_7,eu_8,eu_9,eu_10,eu_11]
def eu_sl (k:Nat):Nat:=if k=7 then 169 else if k=8 then 177 else if k=9 then 178 else if k=10 then 19 else if k=11 then 20 else 170+k
def eu_V (HH G L c2 np cp:Nat) (ap:Option Addr) (tt_ ee:Int) (x0 x1 x2 x3 x4 x5 x6 z0 z1 z2 z3 z4 z5 z6:Value):Nat→Value
 |0=>.agg #[.slice (some ⟨G,0,none⟩) L c2]
 |1=>.slice ap np cp
 |2=>.agg #[x0,x1,x2,x3,x4,x5,x6]
 |3=>.agg #[z0,z1,z2,z3,z4,z5,z6]
 |4=>.slice (some ⟨HH,0,none⟩) 2 2
 |5=>.agg #[.int .i64 13,.string ⟨#[]⟩,.string ⟨#[]⟩,.int .i64 0,.complex .f64 0 0,.slice (some ⟨HH,0,none⟩) 2 2,.int .i64 0]
 |6=>.tuple #[.int .i64 tt_,.int .i64 ee]
 |7=>.tuple #[.int .i64 tt_,.int .i64 ee]
 |8=>.int .i64 tt_
 |9=>.int .i64 ee
 |10=>.int .i64 tt_
 |_=>.int .i64 ee
section
variable {Q:Exit→Act→World→Prop} {X0:World} {a0:Act}
set_option maxHeartbeats 4000000 in
theorem turn19 {b7 Bx Bz G L c2 np cp:Nat} {ap:Option Addr} {tt_ ee:Int} {x0 x1 x2 x3 x4 x5 x6 z0 z1 z2 z3 z4 z5 z6:Value} (h1:X0.cell? ⟨b7,0,none⟩=some (.slice (some ⟨G,0,none⟩) L c2))
  (hx:X0.cell? ⟨Bx,0,none⟩=some x0∧X0.cell? ⟨Bx,1,none⟩=some x1∧X0.cell? ⟨Bx,2,none⟩=some x2∧X0.cell? ⟨Bx,3,none⟩=some x3∧X0.cell? ⟨Bx,4,none⟩=some x4∧X0.cell? ⟨Bx,5,none⟩=some x5∧X0.cell? ⟨Bx,6,none⟩=some x6)
  (hz:X0.cell? ⟨Bz,0,none⟩=some z0∧X0.cell? ⟨Bz,1,none⟩=some z1∧X0.cell? ⟨Bz,2,none⟩=some z2∧X0.cell? ⟨Bz,3,none⟩=some z3∧X0.cell? ⟨Bz,4,none⟩=some z4∧X0.cell? ⟨Bz,5,none⟩=some z5∧X0.cell? ⟨Bz,6,none⟩=some z6)
  (hc:Calls Try.prog 13 #[.agg #[.slice (some ⟨G,0,none⟩) L c2],.slice ap np cp,.agg #[.int .i64 13,.string ⟨#[]⟩,.string ⟨#[]⟩,.int .i64 0,.complex .f64 0 0,.slice (some ⟨X0.heap.size,0,none⟩) 2 2,.int .i64 0]] (X0.alloc (.cells #[x0,x1,x2,x3,x4,x5,x6,z0,z1,z2,z3,z4,z5,z6] 40)) fun e w'=>e=.returned (.tuple #[.int .i64 tt_,.int .i64 ee])∧Below (X0.alloc (.cells #[x0,x1,x2,x3,x4,x5,x6,z0,z1,z2,z3,z4,z5,z6] 40)).heap.size (X0.alloc (.cells #[x0,x1,x2,x3,x4,x5,x6,z0,z1,z2,z3,z4,z5,z6] 40)) w') (hs:251≤a0.tmps.size)
  (e7:Rv.ev a0 7=.pointer (some ⟨b7,0,none⟩)) (e9:Rv.ev a0 9=.slice ap np cp) (e10:Rv.ev a0 10=.pointer (some ⟨Bx,0,none⟩)) (e12:Rv.ev a0 12=.pointer (some ⟨Bz,0,none⟩))
  (hQ:∀ a w,Rv.Off 12 eu_sl a0 a→Below (X0.alloc (.cells #[x0,x1,x2,x3,x4,x5,x6,z0,z1,z2,z3,z4,z5,z6] 40)).heap.size (X0.alloc (.cells #[x0,x1,x2,x3,x4,x5,x6,z0,z1,z2,z3,z4,z5,z6] 40)) w→(∀ j,j<12→Rv.ev a (eu_sl j)=(eu_V X0.heap.size G L c2 np cp ap tt_ ee x0 x1 x2 x3 x4 x5 x6 z0 z1 z2 z3 z4 z5 z6) j)→Q .normal a w) :
  wpList Try.prog eu_ops Q eu_ops.toList a0 X0:=by
 refine Rv.listJ 12 eu_sl (eu_V X0.heap.size G L c2 np cp ap tt_ ee x0 x1 x2 x3 x4 x5 x6 z0 z1 z2 z3 z4 z5 z6) (fun i w=>(i≤4∧X0=w)∨(4<i∧i≤6∧(X0.alloc (.cells #[x0,x1,x2,x3,x4,x5,x6,z0,z1,z2,z3,z4,z5,z6] 40))=w)∨(6<i∧Below (X0.alloc (.cells #[x0,x1,x2,x3,x4,x5,x6,z0,z1,z2,z3,z4,z5,z6] 40)).heap.size (X0.alloc (.cells #[x0,x1,x2,x3,x4,x5,x6,z0,z1,z2,z3,z4,z5,z6] 40)) w)) rfl (by decide) (fun j hj=>Nat.lt_of_lt_of_le ((by decide:∀ j,j<12→eu_sl j<251) j hj) hs) (.inl ⟨by decide,rfl⟩) ?_ ?_
 ·intro i a W hi hO hJ hd
  have hev:∀ j,a.eval (.tmp j)=Rv.ev a j:=fun _=>rfl
  have hcn:∀ v,a.eval (.const v)=v:=fun _=>rfl
  have hfn:∀ v,a.eval (.func v)=.func (.func v) #[] #[]:=fun _=>rfl
  have g7:Rv.ev a 7=.pointer (some ⟨b7,0,none⟩):=(hO.same 7 (by decide)).trans e7
  have g9:Rv.ev a 9=.slice ap np cp:=(hO.same 9 (by decide)).trans e9
  have g10:Rv.ev a 10=.pointer (some ⟨Bx,0,none⟩):=(hO.same 10 (by decide)).trans e10
  obtain⟨xc0,xc1,xc2,xc3,xc4,xc5,xc6⟩:=hx
  have g12:Rv.ev a 12=.pointer (some ⟨Bz,0,none⟩):=(hO.same 12 (by decide)).trans e12
  obtain⟨zc0,zc1,zc2,zc3,zc4,zc5,zc6⟩:=hz
  have hN:i=0∨i=1∨i=2∨i=3∨i=4∨i=5∨i=6∨i=7∨i=8∨i=9∨i=10∨i=11:=by omega
  rcases hN with rfl|rfl|rfl|rfl|rfl|rfl|rfl|rfl|rfl|rfl|rfl|rfl
  ·rcases hJ with⟨_,rfl⟩|⟨h,h2,_⟩|⟨h,_⟩
   ·exact Rv.runJ (o:=eu_0) rfl rfl (Rv.want_free rfl) (by unfold eu_0;simp only[execOp,hev,g7];go_simp<;>rfl) (.inl ⟨by decide,rfl⟩)
   ·exact absurd h (by decide)
   ·exact absurd h (by decide)
  ·rcases hJ with⟨_,rfl⟩|⟨h,h2,_⟩|⟨h,_⟩
   ·exact Rv.runJ (o:=eu_1) rfl rfl (Rv.want_free rfl) (by unfold eu_1;simp only[execOp,hev,g9];rfl) (.inl ⟨by decide,rfl⟩)
   ·exact absurd h (by decide)
   ·exact absurd h (by decide)
  ·rcases hJ with⟨_,rfl⟩|⟨h,h2,_⟩|⟨h,_⟩
   ·exact Rv.runJ (o:=eu_2) rfl rfl (Rv.want_free rfl) (by unfold eu_2;simp only[execOp,hev,g10];go_simp<;>rfl) (.inl ⟨by decide,rfl⟩)
   ·exact absurd h (by decide)
   ·exact absurd h (by decide)
  ·rcases hJ with⟨_,rfl⟩|⟨h,h2,_⟩|⟨h,_⟩
   ·exact Rv.runJ (o:=eu_3) rfl rfl (Rv.want_free rfl) (by unfold eu_3;simp only[execOp,hev,g12];go_simp<;>rfl) (.inl ⟨by decide,rfl⟩)
   ·exact absurd h (by decide)
   ·exact absurd h (by decide)
  ·rcases hJ with⟨_,rfl⟩|⟨h,h2,_⟩|⟨h,_⟩
   ·have d172:Rv.ev a 172=.agg #[x0,x1,x2,x3,x4,x5,x6]:=hd 2 (by decide)
    have d173:Rv.ev a 173=.agg #[z0,z1,z2,z3,z4,z5,z6]:=hd 3 (by decide)
    exact Rv.runJ (o:=eu_4) rfl rfl (Rv.want_free rfl) (by unfold eu_4;simp only[execOp,List.map_toArray,List.map_cons,List.map_nil,hev,d172,d173];go_simp<;>rfl) (.inr (.inl ⟨by decide,by decide,rfl⟩))
   ·exact absurd h (by decide)
   ·exact absurd h (by decide)
  ·rcases hJ with⟨h,_⟩|⟨_,_,rfl⟩|⟨h,_⟩
   ·exact absurd h (by decide)
   ·have d174:Rv.ev a 174=.slice (some ⟨X0.heap.size,0,none⟩) 2 2:=hd 4 (by decide)
    exact Rv.runJ (o:=eu_5) rfl rfl (Rv.want_free rfl) (by unfold eu_5;simp only[execOp,List.map_toArray,List.map_cons,List.map_nil,hev,hcn,d174];go_simp<;>rfl) (.inr (.inl ⟨by decide,by decide,rfl⟩))
   ·exact absurd h (by decide)
  ·rcases hJ with⟨h,_⟩|⟨_,_,rfl⟩|⟨h,_⟩
   ·exact absurd h (by decide)
   ·have d170:Rv.ev a 170=.agg #[.slice (some ⟨G,0,none⟩) L c2]:=hd 0 (by decide)
    have d171:Rv.ev a 171=.slice ap np cp:=hd 1 (by decide)
    have d175:Rv.ev a 175=.agg #[.int .i64 13,.string ⟨#[]⟩,.string ⟨#[]⟩,.int .i64 0,.complex .f64 0 0,.slice (some ⟨X0.heap.size,0,none⟩) 2 2,.int .i64 0]:=hd 5 (by decide)
    refine Rv.callJ (o:=eu_6) (f:=13) (vs:=#[.agg #[.slice (some ⟨G,0,none⟩) L c2],.slice ap np cp,.agg #[.int .i64 13,.string ⟨#[]⟩,.string ⟨#[]⟩,.int .i64 0,.complex .f64 0 0,.slice (some ⟨X0.heap.size,0,none⟩) 2 2,.int .i64 0]]) rfl rfl (Rv.want_free rfl) ?_ (hc.mono fun e w' h=>⟨h.1,.inr (.inr ⟨by decide,h.2⟩)⟩)
    unfold eu_6
    simp only[execOp,resolve,invoke,Sem.run_bind,List.map_toArray,List.map_cons,List.map_nil,hev,hfn,d170,d171,d175]
    go_simp
   ·exact absurd h (by decide)
  ·rcases hJ with⟨h,_⟩|⟨h,h2,_⟩|⟨_,hB⟩
   ·exact absurd h (by decide)
   ·exact absurd h2 (by decide)
   ·have d176:Rv.ev a 176=.tuple #[.int .i64 tt_,.int .i64 ee]:=hd 6 (by decide)
    exact Rv.runJ (o:=eu_7) rfl rfl (Rv.want_free rfl) (by unfold eu_7;simp only[execOp,hev,d176];rfl) (.inr (.inr ⟨by decide,hB⟩))
  ·rcases hJ with⟨h,_⟩|⟨h,h2,_⟩|⟨_,hB⟩
   ·exact absurd h (by decide)
   ·exact absurd h2 (by decide)
   ·have d169:Rv.ev a 169=.tuple #[.int .i64 tt_,.int .i64 ee]:=hd 7 (by decide)
    exact Rv.runJ (o:=eu_8) rfl rfl (Rv.want_free rfl) (by unfold eu_8;simp only[execOp,hev,d169];rfl) (.inr (.inr ⟨by decide,hB⟩))
  ·rcases hJ with⟨h,_⟩|⟨h,h2,_⟩|⟨_,hB⟩
   ·exact absurd h (by decide)
   ·exact absurd h2 (by decide)
   ·have d169:Rv.ev a 169=.tuple #[.int .i64 tt_,.int .i64 ee]:=hd 7 (by decide)
    exact Rv.runJ (o:=eu_9) rfl rfl (Rv.want_free rfl) (by unfold eu_9;simp only[execOp,hev,d169];rfl) (.inr (.inr ⟨by decide,hB⟩))
  ·rcases hJ with⟨h,_⟩|⟨h,h2,_⟩|⟨_,hB⟩
   ·exact absurd h (by decide)
   ·exact absurd h2 (by decide)
   ·have d177:Rv.ev a 177=.int .i64 tt_:=hd 8 (by decide)
    exact Rv.runJ (o:=eu_10) rfl rfl (Rv.want_free rfl) (by unfold eu_10;simp only[execOp,hev,d177];rfl) (.inr (.inr ⟨by decide,hB⟩))
  ·rcases hJ with⟨h,_⟩|⟨h,h2,_⟩|⟨_,hB⟩
   ·exact absurd h (by decide)
   ·exact absurd h2 (by decide)
   ·have d178:Rv.ev a 178=.int .i64 ee:=hd 9 (by decide)
    exact Rv.runJ (o:=eu_11) rfl rfl (Rv.want_free rfl) (by unfold eu_11;simp only[execOp,hev,d178];rfl) (.inr (.inr ⟨by decide,hB⟩))
 ·intro a W hO hJ hv
  rcases hJ with⟨h,_⟩|⟨_,h,_⟩|⟨_,hB⟩
  ·exact absurd h (by decide)
  ·exact absurd h (by decide)
  ·exact hQ a W hO hB hv
end
def ev_0 : Oper := { dst := some 205, op := Op.load 26 (Operand.tmp 7), type := 26, pos := "law.go:110", after := #[], guard := none }
def ev_1 : Oper := { dst := some 206, op := Op.move (Operand.tmp 9), type := 34, pos := "law.go:110", after := #[], guard := none }
def ev_2 : Oper := { dst := some 207, op := Op.load 40 (Operand.tmp 12), type := 40, pos := "law.go:110", after := #[], guard := none }
def ev_3 : Oper := { dst := some 208, op := Op.load 40 (Operand.tmp 10), type := 40, pos := "law.go:110", after := #[], guard := none }
def ev_4 : Oper := { dst := some 209, op := Op.buildSlice 38 2 #[(0, Operand.tmp 207), (1, Operand.tmp 208)], type := 38, pos := "law.go:110", after := #[{ on := 2, ground := Ground.data }, { on := 3, ground := Ground.data }], guard := none }
def ev_5 : Oper := { dst := some 210, op := Op.build 40 #[(0, Operand.const (Value.int IntKind.i64 10)), (5, Operand.tmp 209)], type := 40, pos := "law.go:110", after := #[{ on := 4, ground := Ground.data }], guard := none }
def ev_6 : Oper := { dst := some 211, op := Op.call { callee := Callee.value (Operand.func 13), args := #[Operand.tmp 205, Operand.tmp 206, Operand.tmp 210], argTypes := #[26, 34, 40] }, type := 43, pos := "law.go:110", after := #[{ on := 0, ground := Ground.data }, { on := 1, ground := Ground.data }, { on := 5, ground := Ground.data }], guard := none }
def ev_7 : Oper := { dst := some 204, op := Op.move (Operand.tmp 211), type := 43, pos := "law.go:110", after := #[{ on := 6, ground := Ground.data }], guard := none }
def ev_8 : Oper := { dst := some 212, op := Op.extract (Operand.tmp 204) 0, type := 35, pos := "law.go:110", after := #[{ on := 7, ground := Ground.data }], guard := none }
def ev_9 : Oper := { dst := some 213, op := Op.extract (Operand.tmp 204) 1, type := 29, pos := "law.go:110", after := #[{ on := 7, ground := Ground.data }, { on := 10, ground := Ground.gcOnly Departure.lateStores }], guard := none }
def ev_10 : Oper := { dst := some 19, op := Op.assign (Operand.tmp 212), type := 35, pos := "law.go:110", after := #[{ on := 8, ground := Ground.data }, { on := 6, ground := Ground.chain }, { on := 0, ground := Ground.phase }, { on := 1, ground := Ground.phase }, { on := 2, ground := Ground.phase }, { on := 3, ground := Ground.phase }, { on := 4, ground := Ground.phase }, { on := 5, ground := Ground.phase }, { on := 6, ground := Ground.phase }, { on := 7, ground := Ground.phase }, { on := 8, ground := Ground.phase }, { on := 9, ground := Ground.textOnly Departure.lateStores }], guard := none }
def ev_11 : Oper := { dst := some 20, op := Op.assign (Operand.tmp 213), type := 29, pos := "law.go:110", after := #[{ on := 9, ground := Ground.data }, { on := 10, ground := Ground.chain }, { on := 0, ground := Ground.phase }, { on := 1, ground := Ground.phase }, { on := 2, ground := Ground.phase }, { on := 3, ground := Ground.phase }, { on := 4, ground := Ground.phase }, { on := 5, ground := Ground.phase }, { on := 6, ground := Ground.phase }, { on := 7, ground := Ground.phase }, { on := 8, ground := Ground.phase }, { on := 9, ground := Ground.phase }, { on := 10, ground := Ground.phase }], guard := none }
def ev_ops:Array Oper:=#[ev_0,ev_1,ev_2,ev_3,ev_4,ev_5,ev_6,ev_7,ev_8,ev_9,ev_10,ev_11]
def ev_sl (k:Nat):Nat:=if k=7 then 204 else if k=8 then 212 else if k=9 then 213 else if k=10 then 19 else if k=11 then 20 else 205+k
def ev_V (HH G L c2 np cp:Nat) (ap:Option Addr) (tt_ ee:Int) (z0 z1 z2 z3 z4 z5 z6 x0 x1 x2 x3 x4 x5 x6:Value):Nat→Value
 |0=>.agg #[.slice (some ⟨G,0,none⟩) L c2]
 |1=>.slice ap np cp
 |2=>.agg #[z0,z1,z2,z3,z4,z5,z6]
 |3=>.agg #[x0,x1,x2,x3,x4,x5,x6]
 |4=>.slice (some ⟨HH,0,none⟩) 2 2
 |5=>.agg #[.int .i64 10,.string ⟨#[]⟩,.string ⟨#[]⟩,.int .i64 0,.complex .f64 0 0,.slice (some ⟨HH,0,none⟩) 2 2,.int .i64 0]
 |6=>.tuple #[.int .i64 tt_,.int .i64 ee]
 |7=>.tuple #[.int .i64 tt_,.int .i64 ee]
 |8=>.int .i64 tt_
 |9=>.int .i64 ee
 |10=>.int .i64 tt_
 |_=>.int .i64 ee
section
variable {Q:Exit→Act→World→Prop} {X0:World} {a0:Act}
set_option maxHeartbeats 4000000 in
theorem turn22 {b7 Bz Bx G L c2 np cp:Nat} {ap:Option Addr} {tt_ ee:Int} {z0 z1 z2 z3 z4 z5 z6 x0 x1 x2 x3 x4 x5 x6:Value} (h1:X0.cell? ⟨b7,0,none⟩=some (.slice (some ⟨G,0,none⟩) L c2))
  (hz:X0.cell? ⟨Bz,0,none⟩=some z0∧X0.cell? ⟨Bz,1,none⟩=some z1∧X0.cell? ⟨Bz,2,none⟩=some z2∧X0.cell? ⟨Bz,3,none⟩=some z3∧X0.cell? ⟨Bz,4,none⟩=some z4∧X0.cell? ⟨Bz,5,none⟩=some z5∧X0.cell? ⟨Bz,6,none⟩=some z6)
  (hx:X0.cell? ⟨Bx,0,none⟩=some x0∧X0.cell? ⟨Bx,1,none⟩=some x1∧X0.cell? ⟨Bx,2,none⟩=some x2∧X0.cell? ⟨Bx,3,none⟩=some x3∧X0.cell? ⟨Bx,4,none⟩=some x4∧X0.cell? ⟨Bx,5,none⟩=some x5∧X0.cell? ⟨Bx,6,none⟩=some x6)
  (hc:Calls Try.prog 13 #[.agg #[.slice (some ⟨G,0,none⟩) L c2],.slice ap np cp,.agg #[.int .i64 10,.string ⟨#[]⟩,.string ⟨#[]⟩,.int .i64 0,.complex .f64 0 0,.slice (some ⟨X0.heap.size,0,none⟩) 2 2,.int .i64 0]] (X0.alloc (.cells #[z0,z1,z2,z3,z4,z5,z6,x0,x1,x2,x3,x4,x5,x6] 40)) fun e w'=>e=.returned (.tuple #[.int .i64 tt_,.int .i64 ee])∧Below (X0.alloc (.cells #[z0,z1,z2,z3,z4,z5,z6,x0,x1,x2,x3,x4,x5,x6] 40)).heap.size (X0.alloc (.cells #[z0,z1,z2,z3,z4,z5,z6,x0,x1,x2,x3,x4,x5,x6] 40)) w') (hs:251≤a0.tmps.size)
  (e7:Rv.ev a0 7=.pointer (some ⟨b7,0,none⟩)) (e9:Rv.ev a0 9=.slice ap np cp) (e12:Rv.ev a0 12=.pointer (some ⟨Bz,0,none⟩)) (e10:Rv.ev a0 10=.pointer (some ⟨Bx,0,none⟩))
  (hQ:∀ a w,Rv.Off 12 ev_sl a0 a→Below (X0.alloc (.cells #[z0,z1,z2,z3,z4,z5,z6,x0,x1,x2,x3,x4,x5,x6] 40)).heap.size (X0.alloc (.cells #[z0,z1,z2,z3,z4,z5,z6,x0,x1,x2,x3,x4,x5,x6] 40)) w→(∀ j,j<12→Rv.ev a (ev_sl j)=(ev_V X0.heap.size G L c2 np cp ap tt_ ee z0 z1 z2 z3 z4 z5 z6 x0 x1 x2 x3 x4 x5 x6) j)→Q .normal a w) :
  wpList Try.prog ev_ops Q ev_ops.toList a0 X0:=by
 refine Rv.listJ 12 ev_sl (ev_V X0.heap.size G L c2 np cp ap tt_ ee z0 z1 z2 z3 z4 z5 z6 x0 x1 x2 x3 x4 x5 x6) (fun i w=>(i≤4∧X0=w)∨(4<i∧i≤6∧(X0.alloc (.cells #[z0,z1,z2,z3,z4,z5,z6,x0,x1,x2,x3,x4,x5,x6] 40))=w)∨(6<i∧Below (X0.alloc (.cells #[z0,z1,z2,z3,z4,z5,z6,x0,x1,x2,x3,x4,x5,x6] 40)).heap.size (X0.alloc (.cells #[z0,z1,z2,z3,z4,z5,z6,x0,x1,x2,x3,x4,x5,x6] 40)) w)) rfl (by decide) (fun j hj=>Nat.lt_of_lt_of_le ((by decide:∀ j,j<12→ev_sl j<251) j hj) hs) (.inl ⟨by decide,rfl⟩) ?_ ?_
 ·intro i a W hi hO hJ hd
  have hev:∀ j,a.eval (.tmp j)=Rv.ev a j:=fun _=>rfl
  have hcn:∀ v,a.eval (.const v)=v:=fun _=>rfl
  have hfn:∀ v,a.eval (.func v)=.func (.func v) #[] #[]:=fun _=>rfl
  have g7:Rv.ev a 7=.pointer (some ⟨b7,0,none⟩):=(hO.same 7 (by decide)).trans e7
  have g9:Rv.ev a 9=.slice ap np cp:=(hO.same 9 (by decide)).trans e9
  have g12:Rv.ev a 12=.pointer (some ⟨Bz,0,none⟩):=(hO.same 12 (by decide)).trans e12
  obtain⟨zc0,zc1,zc2,zc3,zc4,zc5,zc6⟩:=hz
  have g10:Rv.ev a 10=.pointer (some ⟨Bx,0,none⟩):=(hO.same 10 (by decide)).trans e10
  obtain⟨xc0,xc1,xc2,xc3,xc4,xc5,xc6⟩:=hx
  have hN:i=0∨i=1∨i=2∨i=3∨i=4∨i=5∨i=6∨i=7∨i=8∨i=9∨i=10∨i=11:=by omega
  rcases hN with rfl|rfl|rfl|rfl|rfl|rfl|rfl|rfl|rfl|rfl|rfl|rfl
  ·rcases hJ with⟨_,rfl⟩|⟨h,h2,_⟩|⟨h,_⟩
   ·exact Rv.runJ (o:=ev_0) rfl rfl (Rv.want_free rfl) (by unfold ev_0;simp only[execOp,hev,g7];go_simp<;>rfl) (.inl ⟨by decide,rfl⟩)
   ·exact absurd h (by decide)
   ·exact absurd h (by decide)
  ·rcases hJ with⟨_,rfl⟩|⟨h,h2,_⟩|⟨h,_⟩
   ·exact Rv.runJ (o:=ev_1) rfl rfl (Rv.want_free rfl) (by unfold ev_1;simp only[execOp,hev,g9];rfl) (.inl ⟨by decide,rfl⟩)
   ·exact absurd h (by decide)
   ·exact absurd h (by decide)
  ·rcases hJ with⟨_,rfl⟩|⟨h,h2,_⟩|⟨h,_⟩
   ·exact Rv.runJ (o:=ev_2) rfl rfl (Rv.want_free rfl) (by unfold ev_2;simp only[execOp,hev,g12];go_simp<;>rfl) (.inl ⟨by decide,rfl⟩)
   ·exact absurd h (by decide)
   ·exact absurd h (by decide)
  ·rcases hJ with⟨_,rfl⟩|⟨h,h2,_⟩|⟨h,_⟩
   ·exact Rv.runJ (o:=ev_3) rfl rfl (Rv.want_free rfl) (by unfold ev_3;simp only[execOp,hev,g10];go_simp<;>rfl) (.inl ⟨by decide,rfl⟩)
   ·exact absurd h (by decide)
   ·exact absurd h (by decide)
  ·rcases hJ with⟨_,rfl⟩|⟨h,h2,_⟩|⟨h,_⟩
   ·have d207:Rv.ev a 207=.agg #[z0,z1,z2,z3,z4,z5,z6]:=hd 2 (by decide)
    have d208:Rv.ev a 208=.agg #[x0,x1,x2,x3,x4,x5,x6]:=hd 3 (by decide)
    exact Rv.runJ (o:=ev_4) rfl rfl (Rv.want_free rfl) (by unfold ev_4;simp only[execOp,List.map_toArray,List.map_cons,List.map_nil,hev,d207,d208];go_simp<;>rfl) (.inr (.inl ⟨by decide,by decide,rfl⟩))
   ·exact absurd h (by decide)
   ·exact absurd h (by decide)
  ·rcases hJ with⟨h,_⟩|⟨_,_,rfl⟩|⟨h,_⟩
   ·exact absurd h (by decide)
   ·have d209:Rv.ev a 209=.slice (some ⟨X0.heap.size,0,none⟩) 2 2:=hd 4 (by decide)
    exact Rv.runJ (o:=ev_5) rfl rfl (Rv.want_free rfl) (by unfold ev_5;simp only[execOp,List.map_toArray,List.map_cons,List.map_nil,hev,hcn,d209];go_simp<;>rfl) (.inr (.inl ⟨by decide,by decide,rfl⟩))
   ·exact absurd h (by decide)
  ·rcases hJ with⟨h,_⟩|⟨_,_,rfl⟩|⟨h,_⟩
   ·exact absurd h (by decide)
   ·have d205:Rv.ev a 205=.agg #[.slice (some ⟨G,0,none⟩) L c2]:=hd 0 (by decide)
    have d206:Rv.ev a 206=.slice ap np cp:=hd 1 (by decide)
    have d210:Rv.ev a 210=.agg #[.int .i64 10,.string ⟨#[]⟩,.string ⟨#[]⟩,.int .i64 0,.complex .f64 0 0,.slice (some ⟨X0.heap.size,0,none⟩) 2 2,.int .i64 0]:=hd 5 (by decide)
    refine Rv.callJ (o:=ev_6) (f:=13) (vs:=#[.agg #[.slice (some ⟨G,0,none⟩) L c2],.slice ap np cp,.agg #[.int .i64 10,.string ⟨#[]⟩,.string ⟨#[]⟩,.int .i64 0,.complex .f64 0 0,.slice (some ⟨X0.heap.size,0,none⟩) 2 2,.int .i64 0]]) rfl rfl (Rv.want_free rfl) ?_ (hc.mono fun e w' h=>⟨h.1,.inr (.inr ⟨by decide,h.2⟩)⟩)
    unfold ev_6
    simp only[execOp,resolve,invoke,Sem.run_bind,List.map_toArray,List.map_cons,List.map_nil,hev,hfn,d205,d206,d210]
    go_simp
   ·exact absurd h (by decide)
  ·rcases hJ with⟨h,_⟩|⟨h,h2,_⟩|⟨_,hB⟩
   ·exact absurd h (by decide)
   ·exact absurd h2 (by decide)
   ·have d211:Rv.ev a 211=.tuple #[.int .i64 tt_,.int .i64 ee]:=hd 6 (by decide)
    exact Rv.runJ (o:=ev_7) rfl rfl (Rv.want_free rfl) (by unfold ev_7;simp only[execOp,hev,d211];rfl) (.inr (.inr ⟨by decide,hB⟩))
  ·rcases hJ with⟨h,_⟩|⟨h,h2,_⟩|⟨_,hB⟩
   ·exact absurd h (by decide)
   ·exact absurd h2 (by decide)
   ·have d204:Rv.ev a 204=.tuple #[.int .i64 tt_,.int .i64 ee]:=hd 7 (by decide)
    exact Rv.runJ (o:=ev_8) rfl rfl (Rv.want_free rfl) (by unfold ev_8;simp only[execOp,hev,d204];rfl) (.inr (.inr ⟨by decide,hB⟩))
  ·rcases hJ with⟨h,_⟩|⟨h,h2,_⟩|⟨_,hB⟩
   ·exact absurd h (by decide)
   ·exact absurd h2 (by decide)
   ·have d204:Rv.ev a 204=.tuple #[.int .i64 tt_,.int .i64 ee]:=hd 7 (by decide)
    exact Rv.runJ (o:=ev_9) rfl rfl (Rv.want_free rfl) (by unfold ev_9;simp only[execOp,hev,d204];rfl) (.inr (.inr ⟨by decide,hB⟩))
  ·rcases hJ with⟨h,_⟩|⟨h,h2,_⟩|⟨_,hB⟩
   ·exact absurd h (by decide)
   ·exact absurd h2 (by decide)
   ·have d212:Rv.ev a 212=.int .i64 tt_:=hd 8 (by decide)
    exact Rv.runJ (o:=ev_10) rfl rfl (Rv.want_free rfl) (by unfold ev_10;simp only[execOp,hev,d212];rfl) (.inr (.inr ⟨by decide,hB⟩))
  ·rcases hJ with⟨h,_⟩|⟨h,h2,_⟩|⟨_,hB⟩
   ·exact absurd h (by decide)
   ·exact absurd h2 (by decide)
   ·have d213:Rv.ev a 213=.int .i64 ee:=hd 9 (by decide)
    exact Rv.runJ (o:=ev_11) rfl rfl (Rv.want_free rfl) (by unfold ev_11;simp only[execOp,hev,d213];rfl) (.inr (.inr ⟨by decide,hB⟩))
 ·intro a W hO hJ hv
  rcases hJ with⟨h,_⟩|⟨_,h,_⟩|⟨_,hB⟩
  ·exact absurd h (by decide)
  ·exact absurd h (by decide)
  ·exact hQ a W hO hB hv
end
end Go.Proofs.Ytkbglnhdbnijlaa
