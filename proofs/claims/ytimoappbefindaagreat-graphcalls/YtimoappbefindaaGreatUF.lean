/-
  4 texts in one: what each proves stands at its head.
-/
import Derived.Test.YtimoappbefindaaGreatUA
import Derived.Test.YtimoappbefindaaGreatUB
import Derived.WalkMore
import Derived.Test.YtimoappbefindaaGreatUD
import Derived.Test.YtimoappbefindaaGreatRx
import Derived.Lib.TrimU
import Derived.Deep.MidRow
namespace Go.Proofs.YtimoappbefindaaGreat
set_option maxHeartbeats 400000
open Go.RowKit
set_option maxRecDepth 100000
theorem isBl_eq (c:UInt8):isBl c=decide (c.toNat=9∨c.toNat=10∨c.toNat=13∨c.toNat=32):=by
 rw[Bool.eq_iff_iff];simp[isBl,← UInt8.toNat_inj,or_assoc]
theorem jS (c:UInt8):isLt c=decide ((65≤c.toNat∧c.toNat≤90)∨(97≤c.toNat∧c.toNat≤122)):=by
 rw[Bool.eq_iff_iff];simp[isLt,UInt8.le_iff_toNat_le]
theorem kW (c:UInt8):isDg c=decide (48≤c.toNat∧c.toNat≤57):=by
 rw[Bool.eq_iff_iff];simp[isDg,UInt8.le_iff_toNat_le]
theorem inRn_eq (c:UInt8):inRn c=decide (((65≤c.toNat∧c.toNat≤90)∨(97≤c.toNat∧c.toNat≤122))∨(48≤c.toNat∧c.toNat≤57)∨c.toNat=95):=by
 rw[Bool.eq_iff_iff];simp[inRn,jS,kW,← UInt8.toNat_inj,or_assoc]
theorem ig (c:UInt8) (w:World) :
  Calls Tryz.prog 65 #[.int .u8 c.toNat] w fun e w'=>e=.returned (.bool (isBl c))∧w'=w:=by
 rw[isBl_eq]
 generalize c.toNat=n
 go_enter Tryz.func65,Tryz.ntmps65
 go_wp2
 all_goals go_ret
 all_goals exact⟨gD (by rw[Bool.eq_iff_iff];simp;omega),rfl⟩
theorem dB (c:UInt8) (w:World) :
  Calls Tryz.prog 82 #[.int .u8 c.toNat] w fun e w'=>e=.returned (.bool (isDg c))∧w'=w:=by
 rw[kW]
 generalize c.toNat=n
 go_enter Tryz.func82,Tryz.ntmps82
 go_wp2
 all_goals go_ret
 all_goals exact⟨gD (by rw[Bool.eq_iff_iff];simp;omega),rfl⟩
theorem refletter_any (c:UInt8) (w:World) :
  Calls Tryz.prog 101 #[.int .u8 c.toNat] w fun e w'=>e=.returned (.bool (isLt c))∧w'=w:=by
 rw[jS]
 generalize c.toNat=n
 go_enter Tryz.func101,Tryz.ntmps101
 go_wp2
 all_goals go_ret
 all_goals exact⟨gD (by rw[Bool.eq_iff_iff];simp;omega),rfl⟩
structure Bd (w:World) (ao:Option Addr) (l:List UInt8):Prop where
 pl:l≠[]→∃ b off,ao=some ⟨b,off,none⟩∧∀ t,t<l.length→w.cell? ⟨b,off+t,none⟩=some (.int .u8 ((l.getD t 0).toNat:Int))
theorem Bd.nil (w:World) (ao:Option Addr):Bd w ao []:=⟨fun h=>absurd rfl h⟩
theorem cu {w:World} {b o:Nat} {v:Value} (h:w.cell? ⟨b,o,none⟩=some v):b<w.heap.size:=by
 simp only[World.cell?] at h
 rcases Nat.lt_or_ge b w.heap.size with k|k
 ·exact k
 ·exfalso
  rw[Array.getElem?_eq_none k] at h
  simp at h
theorem Bd.up {w w':World} {ao:Option Addr} {l:List UInt8} (h:Bd w ao l) (hb:Below w.heap.size w w'):Bd w' ao l:=by
 refine⟨fun hn=>?_⟩
 obtain⟨b,off,e,hc⟩:=h.pl hn
 refine⟨b,off,e,fun t ht=>?_⟩
 have h1:=hc t ht
 rw[← h1]
 exact hb.cell (cu h1)
def strV (l:List UInt8):Value:=.string (bs l)
def rdN:Num:=⟨rdOk,rdP,rdQ⟩
def mkV (m:Mk):Value:=.agg #[.int .i64 m.kind,.string (bs m.text),.complex .f64 (fl m.p) (fl m.q),.int .i64 m.at_]
def S4 (w:World) (b:Nat) (x y z u:Value):Prop:=w.heap[b]?=some (.cells #[x,y,z,u] 135 (0,0))
theorem S4.lt {w:World} {b:Nat} {x y z u:Value} (h:S4 w b x y z u):b<w.heap.size:=by
 rcases Nat.lt_or_ge b w.heap.size with k|k
 ·exact k
 ·unfold S4 at h;rw[Array.getElem?_eq_none k] at h;cases h
theorem S4.cells {w:World} {b:Nat} {x y z u:Value} (h:S4 w b x y z u):w.cell? ⟨b,0,none⟩=some x∧w.cell? ⟨b,1,none⟩=some y∧w.cell? ⟨b,2,none⟩=some z∧w.cell? ⟨b,3,none⟩=some u:=by
 refine⟨?_,?_,?_,?_⟩
 ·rw[cell_of_row w _ 0 _ _ _ h];rfl
 ·rw[cell_of_row w _ 1 _ _ _ h];rfl
 ·rw[cell_of_row w _ 2 _ _ _ h];rfl
 ·rw[cell_of_row w _ 3 _ _ _ h];rfl
theorem S4.frz {w:World} {b:Nat} {x y z u:Value} (h:S4 w b x y z u):w.frozen? ⟨b,0,none⟩=false∧w.frozen? ⟨b,1,none⟩=false∧w.frozen? ⟨b,2,none⟩=false∧w.frozen? ⟨b,3,none⟩=false:=
 ⟨frozen_of_row w _ 0 _ _ h,frozen_of_row w _ 1 _ _ h,frozen_of_row w _ 2 _ _ h,frozen_of_row w _ 3 _ _ h⟩
theorem S4.new (w:World) (x y z u:Value):S4 (w.alloc (.cells #[x,y,z,u] 135)) w.heap.size x y z u:=heap_alloc_new w _
theorem S4.alloc {w:World} {b:Nat} {x y z u:Value} (h:S4 w b x y z u) (o:Obj):S4 (w.alloc o) b x y z u:=by
 unfold S4;rw[Below.heap_alloc _ _ _ h.lt];exact h
theorem S4.up {w w':World} {b:Nat} {x y z u:Value} (h:S4 w b x y z u) (hb:Below w.heap.size w w'):S4 w' b x y z u:=by
 unfold S4;rw[hb.block b h.lt];exact h
theorem S4.set0 {w:World} {b:Nat} {x y z u:Value} (h:S4 w b x y z u) (v:Value):S4 (w.setCell ⟨b,0,none⟩ v) b v y z u:=by unfold S4;rw[heap_setCell_same w b 0 _ _ _ h];rfl
theorem S4.set1 {w:World} {b:Nat} {x y z u:Value} (h:S4 w b x y z u) (v:Value):S4 (w.setCell ⟨b,1,none⟩ v) b x v z u:=by unfold S4;rw[heap_setCell_same w b 1 _ _ _ h];rfl
theorem S4.set2 {w:World} {b:Nat} {x y z u:Value} (h:S4 w b x y z u) (v:Value):S4 (w.setCell ⟨b,2,none⟩ v) b x y v u:=by unfold S4;rw[heap_setCell_same w b 2 _ _ _ h];rfl
theorem S4.set3 {w:World} {b:Nat} {x y z u:Value} (h:S4 w b x y z u) (v:Value):S4 (w.setCell ⟨b,3,none⟩ v) b x y z v:=by unfold S4;rw[heap_setCell_same w b 3 _ _ _ h];rfl
theorem S4.other {w:World} {b:Nat} {x y z u:Value} (h:S4 w b x y z u) {a:Addr} (ha:b≠a.block) (v:Value):S4 (w.setCell a v) b x y z u:=by
 unfold S4;rw[Below.heap_setCell _ _ _ _ ha];exact h
structure Oth (g:Nat) (w0 wr:World):Prop where
 os:wr.os=w0.os
 tape:wr.tape=w0.tape
 output:wr.output=w0.output
 size:wr.heap.size=w0.heap.size
 block:∀ b,b≠g→wr.heap[b]?=w0.heap[b]?
theorem Oth.refl (g:Nat) (w:World):Oth g w w:=⟨rfl,rfl,rfl,rfl,fun _ _=>rfl⟩
theorem Oth.set {g:Nat} {w0 wr:World} (h:Oth g w0 wr) (j:Nat) (u:Value):Oth g w0 (wr.setCell ⟨g,j,none⟩ u):=
 ⟨h.os,h.tape,h.output,by rw[← h.size];simp[World.setCell],fun b hb=>by rw[Below.heap_setCell _ _ _ _ hb];exact h.block b hb⟩
theorem Oth.cell {g:Nat} {w0 wr:World} (h:Oth g w0 wr) {a:Addr} (ha:a.block≠g):wr.cell? a=w0.cell? a:=World.cell?_of_block (w:=w0) (h.block _ ha)
theorem Oth.s4 {g:Nat} {w0 wr:World} (h:Oth g w0 wr) {b:Nat} {x y z u:Value} (hs:S4 w0 b x y z u) (hb:b≠g):S4 wr b x y z u:=by
 unfold S4;rw[h.block b hb];exact hs
theorem Oth.below {g B:Nat} {w0 wr:World} (h:Oth g w0 wr) (hg:B≤g):Below B w0 wr:=
 ⟨h.os,h.tape,h.output,by rw[h.size];exact Nat.le_refl _,fun b hb=>h.block b (by omega)⟩
theorem Tryz.infoM:(Tryz.prog.info? 135).map (·.size)=some 4:=by kernel_rfl
theorem Tryz.underM:Tryz.prog.underlying 135=some (.struct (Tryz.prog.underlying 135 |>.map (fun|.struct f=>f|_=>#[]) |>.getD #[])):=by kernel_rfl
theorem S4.there {w:World} {b:Nat} {x y z u:Value} (h:S4 w b x y z u):w.there b 0 4:=by
 intro j hj
 obtain⟨c0,c1,c2,c3⟩:=h.cells
 obtain⟨f0,f1,f2,f3⟩:=h.frz
 rw[Nat.zero_add]
 match j,hj with
 |0,_=>exact⟨by rw[c0];rfl,f0⟩
 |1,_=>exact⟨by rw[c1];rfl,f1⟩
 |2,_=>exact⟨by rw[c2];rfl,f2⟩
 |3,_=>exact⟨by rw[c3];rfl,f3⟩
theorem S4.range {w:World} {b:Nat} {x y z u:Value} (h:S4 w b x y z u):w.rangeAt b 0 [x,y,z,u]:=by
 obtain⟨c0,c1,c2,c3⟩:=h.cells
 intro j v hv
 rw[Nat.zero_add]
 match j,hv with
 |0,hv=>cases hv;exact c0
 |1,hv=>cases hv;exact c1
 |2,hv=>cases hv;exact c2
 |3,hv=>cases hv;exact c3
theorem aM {ops:Array Oper} {rest:List Oper} {op:Oper} {a:Act} {w:World} {Q:Exit→Act→World→Prop} (hgd:op.guard=none) (x y:Operand) (ho:op.op=.store 135 x y)
  (b:Nat) (p q r s:Value) (hx:a.eval x=.pointer (some ⟨b,0,none⟩)) (hy:a.eval y=.agg #[p,q,r,s]) {x0 y0 z0 u0:Value} (hS:S4 w b x0 y0 z0 u0)
  (h1:p.oneCell'=true∧q.oneCell'=true∧r.oneCell'=true∧s.oneCell'=true) (h:∀ w',S4 w' b p q r s→Oth b w w'→wpList Tryz.prog ops Q rest (a.put op.dst undef) w'):wpList Tryz.prog ops Q (op::rest) a w:=
 wpList_store_mid hgd 135 x y ho b 0 #[p,q,r,s] hx hy hS.there Tryz.infoM
  (all_oneCell_toArray (cs:=[p,q,r,s]) (by intro v hv;simp only[List.mem_cons,List.not_mem_nil,or_false] at hv;rcases hv with rfl|rfl|rfl|rfl<;>first|exact h1.1|exact h1.2.1|exact h1.2.2.1|exact h1.2.2.2))
  (h _ ((((hS.set0 p).set1 q).set2 r).set3 s) (((((Oth.refl b w).set 0 p).set 1 q).set 2 r).set 3 s))
theorem bN {ops:Array Oper} {rest:List Oper} {op:Oper} {a:Act} {w:World} {Q:Exit→Act→World→Prop} (hgd:op.guard=none) (x:Operand) (ho:op.op=.load 135 x)
  (b:Nat) (hx:a.eval x=.pointer (some ⟨b,0,none⟩)) {p q r s:Value} (hS:S4 w b p q r s)
  (h:wpList Tryz.prog ops Q rest (a.put op.dst (.agg #[p,q,r,s])) w):wpList Tryz.prog ops Q (op::rest) a w:=
 wpList_load_mid hgd 135 x ho b 0 hx [p,q,r,s] _ hS.range Tryz.underM rfl Tryz.infoM h
theorem wpList_store1 {ops:Array Oper} {rest:List Oper} {op:Oper} {a:Act} {w:World} {Q:Exit→Act→World→Prop} (hgd:op.guard=none) (t:TypeId) (x y:Operand) (ho:op.op=.store t x y)
  (b j:Nat) (v:Value) (hx:a.eval x=.pointer (some ⟨b,j,none⟩)) (hy:a.eval y=v) (hv:v.oneCell'=true) (hs:(storeVar t ⟨b,j,none⟩ v).run Tryz.prog w=(store ⟨b,j,none⟩ v).run Tryz.prog w)
  (hc:(w.cell? ⟨b,j,none⟩).isSome=true) (hf:w.frozen? ⟨b,j,none⟩=false) (h:wpList Tryz.prog ops Q rest (a.put op.dst undef) (w.setCell ⟨b,j,none⟩ v)):wpList Tryz.prog ops Q (op::rest) a w:=by
 refine wpList_plain hgd fun K hK=>?_
 obtain⟨u,hu⟩:=Option.isSome_iff_exists.1 hc
 unfold Oper.wp execOp
 simp only[ho,hx,hy,Instr.storeAt,Instr.sureAddr,Sem.run_bind,Sem.run_pure,Result.andThen_ok,hs,run_store _ _ _ _ _ hv,hu,hf,Bool.false_eq_true,if_false]
 exact hK _ _ h
theorem two4 (w:World) (x y z u x' y' z' u':Value):S4 ((w.alloc (.cells #[x,y,z,u] 135)).alloc (.cells #[x',y',z',u'] 135)) w.heap.size x y z u∧S4 ((w.alloc (.cells #[x,y,z,u] 135)).alloc (.cells #[x',y',z',u'] 135)) (w.heap.size+1) x' y' z' u':=by
 refine⟨(S4.new w x y z u).alloc _,?_⟩
 have:=S4.new (w.alloc (.cells #[x,y,z,u] 135)) x' y' z' u'
 simpa using this
theorem ae (w:World) (o:Obj):Below w.heap.size w (w.alloc o):=Below.alloc (Below.refl _ _) (Nat.le_refl _) _
theorem Below.thn {a b c:World} (h:Below a.heap.size a b) (k:Below b.heap.size b c):Below a.heap.size a c:=h.trans (k.mono h.size)
theorem bC (w:World) (o o':Obj):Below w.heap.size w ((w.alloc o).alloc o'):=(ae w o).trans ((ae _ _).mono (by simp))
abbrev z4:Obj:=.cells #[.int .i64 0,.string ⟨#[]⟩,.complex .f64 0 0,.int .i64 0] 135
theorem sv_cplx (a:Addr) (x y:Nat) (w:World):(storeVar 55 a (.complex .f64 x y)).run Tryz.prog w=(store a (.complex .f64 x y)).run Tryz.prog w:=by
 unfold storeVar
 simp[Sem.run_bind,Value.cells,storeCells,Addr.add]
end Go.Proofs.YtimoappbefindaaGreat
