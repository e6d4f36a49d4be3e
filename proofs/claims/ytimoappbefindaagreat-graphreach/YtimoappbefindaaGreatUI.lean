/-
  8 texts in one: what each proves stands at its head.
-/
import Derived.Test.YtimoappbefindaaGreatUH
import Derived.WalkLawsBesides
import Derived.Laws.AppendOwnNone
import Derived.Test.YtimoappbefindaaGreatUA
import Derived.RegionTactic
import Derived.Deep.RegionLaw
import Derived.BigQuiet
namespace Go.Proofs.YtimoappbefindaaGreat
open Go.RowKit
set_option maxRecDepth 100000
def Bk (w:World) (b:Nat) (t:TypeId) (vs:List Value):Prop:=w.heap[b]?=some (.cells vs.toArray t (0,0))
theorem Bk.lt {w:World} {b:Nat} {t:TypeId} {vs:List Value} (h:Bk w b t vs):b<w.heap.size:=by
 rcases Nat.lt_or_ge b w.heap.size with k|k
 ·exact k
 ·unfold Bk at h;rw[Array.getElem?_eq_none k] at h;cases h
theorem Bk.cell {w:World} {b:Nat} {t:TypeId} {vs:List Value} (h:Bk w b t vs) (j:Nat):w.cell? ⟨b,j,none⟩=vs[j]?:=by
 rw[cell_of_row w b j _ _ _ h];simp
theorem Bk.frz {w:World} {b:Nat} {t:TypeId} {vs:List Value} (h:Bk w b t vs) (j:Nat):w.frozen? ⟨b,j,none⟩=false:=frozen_of_row w _ j _ _ h
theorem Bk.new (w:World) (t:TypeId) (vs:Array Value):Bk (w.alloc (.cells vs t)) w.heap.size t vs.toList:=by
 show _=_
 rw[heap_alloc_new w _]
theorem Bk.up {w w':World} {b:Nat} {t:TypeId} {vs:List Value} (h:Bk w b t vs) (hb:Below w.heap.size w w'):Bk w' b t vs:=by unfold Bk;rw[hb.block b h.lt];exact h
theorem Bk.oth {w w':World} {b g:Nat} {t:TypeId} {vs:List Value} (h:Bk w b t vs) (ho:Oth g w w') (hb:b≠g):Bk w' b t vs:=by unfold Bk;rw[ho.block b hb];exact h
theorem Bk.set {w:World} {b:Nat} {t:TypeId} {vs:List Value} (h:Bk w b t vs) (j:Nat) (v:Value):Bk (w.setCell ⟨b,j,none⟩ v) b t (vs.set j v):=by
 unfold Bk
 rw[heap_setCell_same w b j _ _ _ h]
 simp
theorem Bk.there {w:World} {b:Nat} {t:TypeId} {vs:List Value} (h:Bk w b t vs) (o n:Nat) (hn:o+n≤vs.length):w.there b o n:=by
 intro j hj
 refine⟨?_,h.frz _⟩
 rw[h.cell,List.getElem?_eq_getElem (by omega)]
 rfl
theorem Bk.range {w:World} {b:Nat} {t:TypeId} {vs:List Value} (h:Bk w b t vs) (o n:Nat):w.rangeAt b o ((vs.drop o).take n):=by
 intro j v hv
 rw[h.cell]
 have hj:=(List.getElem?_eq_some_iff.1 hv).1
 rw[List.getElem?_take,List.getElem?_drop] at hv
 split at hv
 ·exact hv
 ·cases hv
def over (vs:List Value) (o:Nat):List Value→List Value
 |[]=>vs
 |x::xs=>over (vs.set o x) (o+1) xs
theorem Bk.sets {b:Nat} {t:TypeId} (xs:List Value):∀ {w:World} {vs:List Value} (_:Bk w b t vs) (o:Nat),Bk (w.setCells b o xs) b t (over vs o xs)∧Oth b w (w.setCells b o xs):=by
 induction xs with
 |nil=>intro w vs h o;exact⟨h,Oth.refl _ _⟩
 |cons x xs ih=>
  intro w vs h o
  obtain⟨h1,h2⟩:=ih (h.set o x) (o+1)
  refine⟨h1,?_⟩
  have h3:=(Oth.refl b w).set o x
  exact⟨h2.os.trans h3.os,h2.tape.trans h3.tape,h2.output.trans h3.output,h2.size.trans h3.size,fun k hk=>(h2.block k hk).trans (h3.block k hk)⟩
theorem af {ops:Array Oper} {rest:List Oper} {op:Oper} {a:Act} {w:World} {Q:Exit→Act→World→Prop} (hgd:op.guard=none) (ty:TypeId) (x y:Operand) (ho:op.op=.store ty x y)
  (b o:Nat) (xs:List Value) (hx:a.eval x=.pointer (some ⟨b,o,none⟩)) (hy:a.eval y=.agg xs.toArray) {t:TypeId} {vs:List Value} (hS:Bk w b t vs) (hl:o+xs.length≤vs.length)
  (hi:(Tryz.prog.info? ty).map (·.size)=some xs.length) (h1:∀ v∈xs,v.oneCell'=true)
  (h:∀ w',Bk w' b t (over vs o xs)→Oth b w w'→wpList Tryz.prog ops Q rest (a.put op.dst undef) w'):wpList Tryz.prog ops Q (op::rest) a w:=by
 refine wpList_store_mid hgd ty x y ho b o xs.toArray hx hy (by simpa using hS.there o xs.length hl) (by simpa using hi) (all_oneCell_toArray h1) ?_
 obtain⟨h2,h3⟩:=hS.sets xs o
 exact h _ h2 h3
theorem ah {ops:Array Oper} {rest:List Oper} {op:Oper} {a:Act} {w:World} {Q:Exit→Act→World→Prop} (hgd:op.guard=none) (ty:TypeId) (x:Operand) (ho:op.op=.load ty x)
  (b o:Nat) (hx:a.eval x=.pointer (some ⟨b,o,none⟩)) (xs:List Value) (fs:Array Field) (hS:w.rangeAt b o xs) (hu:Tryz.prog.underlying ty=some (.struct fs)) (hi:(Tryz.prog.info? ty).map (·.size)=some xs.length)
  (h:wpList Tryz.prog ops Q rest (a.put op.dst (.agg xs.toArray)) w):wpList Tryz.prog ops Q (op::rest) a w:=
 wpList_load_mid hgd ty x ho b o hx xs _ hS hu rfl hi h
structure But (R:Nat) (w w':World):Prop where
 os:w'.os=w.os
 tape:w'.tape=w.tape
 output:w'.output=w.output
 size:w.heap.size≤w'.heap.size
 block:∀ k,k<w.heap.size→k≠R→w'.heap[k]?=w.heap[k]?
theorem But.refl (R:Nat) (w:World):But R w w:=⟨rfl,rfl,rfl,Nat.le_refl _,fun _ _ _=>rfl⟩
theorem But.trans {R:Nat} {a b c:World} (h:But R a b) (k:But R b c):But R a c:=
 ⟨k.os.trans h.os,k.tape.trans h.tape,k.output.trans h.output,Nat.le_trans h.size k.size,fun i hi hn=>(k.block i (Nat.lt_of_lt_of_le hi h.size) hn).trans (h.block i hi hn)⟩
theorem bN {w w':World} (h:Below w.heap.size w w') (R:Nat):But R w w':=⟨h.os,h.tape,h.output,h.size,fun k hk _=>h.block k hk⟩
theorem But.then {R:Nat} {a b c:World} (h:But R a b) (k:Below b.heap.size b c):But R a c:=h.trans (bN k R)
theorem Oth.but {R g:Nat} {a b c:World} (h:Oth g b c) (k:But R a b) (hg:a.heap.size≤g):But R a c:=
 ⟨h.os.trans k.os,h.tape.trans k.tape,h.output.trans k.output,by rw[h.size];exact k.size,fun i hi hn=>(h.block i (by omega)).trans (k.block i hi hn)⟩
theorem But.setR {R j:Nat} {a b:World} (h:But R a b) (v:Value):But R a (b.setCell ⟨R,j,none⟩ v):=
 ⟨h.os,h.tape,h.output,by simpa [World.setCell] using h.size,fun i hi hn=>by rw[Below.heap_setCell _ _ _ _ hn];exact h.block i hi hn⟩
theorem But.below {R B:Nat} {a b:World} (h:But R a b) (hB:B≤R) (hs:B≤a.heap.size):Below B a b:=⟨h.os,h.tape,h.output,h.size,fun k hk=>h.block k (by omega) (by omega)⟩
theorem Bk.but {w w':World} {b R:Nat} {t:TypeId} {vs:List Value} (h:Bk w b t vs) (hb:But R w w') (hn:b≠R):Bk w' b t vs:=by unfold Bk;rw[hb.block b h.lt hn];exact h
theorem M4.but {w w':World} {b o R:Nat} {m:Mk} (h:M4 w b o m) (hb:But R w w') (hn:b≠R):M4 w' b o m:=by
 have e:∀ j,w'.cell? ⟨b,j,none⟩=w.cell? ⟨b,j,none⟩:=fun j=>World.cell?_of_block (w:=w) (hb.block b h.lt hn)
 exact⟨(e _).trans h.1,(e _).trans h.2.1,(e _).trans h.2.2.1,(e _).trans h.2.2.2⟩
/-! ## Expressions in memory -/
mutual
inductive ExW (w:World) (A:Nat→Prop):Ex→List Value→Prop
 |mk {op:Int} {name tail:List UInt8} {ty p q:Int} {xs:List Ex} {pos:Nat} {ao:Option Addr} {c:Nat}:ElW w A ao xs →
   ExW w A (.mk op name tail ty p q xs pos) [.int .i64 op,.string (bs name),.string (bs tail),.int .i64 ty,.complex .f64 (fl p) (fl q),.slice ao xs.length c,.int .i64 pos]
inductive ElW (w:World) (A:Nat→Prop):Option Addr→List Ex→Prop
 |nil {ao:Option Addr}:ElW w A ao []
 |cons {b off:Nat} {x:Ex} {vs:List Value} {xs:List Ex}:A b→w.rangeAt b off vs→ExW w A x vs→ElW w A (some ⟨b,off+7,none⟩) xs→ElW w A (some ⟨b,off,none⟩) (x::xs)
end
abbrev ExV (w:World) (B:Nat):Ex→List Value→Prop:=ExW w fun b=>B≤b
abbrev ElV (w:World) (B:Nat):Option Addr→List Ex→Prop:=ElW w fun b=>B≤b
theorem ExW.len {w:World} {A:Nat→Prop} {e:Ex} {vs:List Value} (h:ExW w A e vs):vs.length=7:=by cases h;rfl
theorem ExW.one {w:World} {A:Nat→Prop} {e:Ex} {vs:List Value} (h:ExW w A e vs):∀ v∈vs,v.oneCell'=true:=by
 cases h
 intro v hv
 simp only[List.mem_cons,List.not_mem_nil,or_false] at hv
 rcases hv with rfl|rfl|rfl|rfl|rfl|rfl|rfl<;>rfl
theorem range_keep {w w':World} {b o:Nat} {vs:List Value} (h:w.rangeAt b o vs) (hv:vs≠[]) (hb:b<w.heap.size→w'.heap[b]?=w.heap[b]?):w'.rangeAt b o vs:=by
 intro j v hj
 have hl:b<w.heap.size:=by
  cases vs with
  |nil=>exact absurd rfl hv
  |cons x xs=>exact eu (h 0 x rfl)
 rw[show w'.cell? ⟨b,o+j,none⟩=w.cell? ⟨b,o+j,none⟩ from World.cell?_of_block (w:=w) (hb hl)]
 exact h j v hj
mutual
theorem ExW.keep {w w':World} {A:Nat→Prop} (hb:∀ b,A b→b<w.heap.size→w'.heap[b]?=w.heap[b]?):∀ {e:Ex} {vs:List Value},ExW w A e vs→ExW w' A e vs
 |.mk _ _ _ _ _ _ _ _,_,h=>by
  cases h with
  |mk h=>exact .mk (h.keep hb)
theorem ElW.keep {w w':World} {A:Nat→Prop} (hb:∀ b,A b→b<w.heap.size→w'.heap[b]?=w.heap[b]?):∀ {ao:Option Addr} {xs:List Ex},ElW w A ao xs→ElW w' A ao xs
 |_,[],_=>.nil
 |_,_::_,h=>by
  cases h with
  |cons h1 h2 h3 h4=>exact .cons h1 (range_keep h2 (by intro e;have:=h3.len;rw[e] at this;cases this) (hb _ h1)) (h3.keep hb) (h4.keep hb)
end
theorem range_lt {w:World} {b o:Nat} {vs:List Value} (h:w.rangeAt b o vs) (hl:vs.length=7):b<w.heap.size:=by
 cases vs with
 |nil=>cases hl
 |cons x xs=>exact eu (h 0 x rfl)
mutual
theorem ExW.imp {w:World} {A A':Nat→Prop} (hb:∀ b,A b→b<w.heap.size→A' b):∀ {e:Ex} {vs:List Value},ExW w A e vs→ExW w A' e vs
 |.mk _ _ _ _ _ _ _ _,_,h=>by
  cases h with
  |mk h=>exact .mk (h.imp hb)
theorem ElW.imp {w:World} {A A':Nat→Prop} (hb:∀ b,A b→b<w.heap.size→A' b):∀ {ao:Option Addr} {xs:List Ex},ElW w A ao xs→ElW w A' ao xs
 |_,[],_=>.nil
 |_,_::_,h=>by
  cases h with
  |cons h1 h2 h3 h4=>exact .cons (hb _ h1 (range_lt h2 h3.len)) h2 (h3.imp hb) (h4.imp hb)
end
theorem ExW.mono {w:World} {B B':Nat} (hb:B'≤B) {e:Ex} {vs:List Value} (h:ExV w B e vs):ExV w B' e vs:=h.imp fun _ h _=>Nat.le_trans hb h
theorem ExW.oth {w w':World} {B g:Nat} {e:Ex} {vs:List Value} (h:ExV w B e vs) (hU:Oth g w w') (hg:g<B):ExV w' B e vs:=h.keep fun b hb _=>hU.block b (by omega)
theorem aP {vs:List Value} (h:vs.length=7):∃ a b c d e f g,vs=[a,b,c,d,e,f,g]:=by
 match vs,h with
 |[a,b,c,d,e,f,g],_=>exact⟨a,b,c,d,e,f,g,rfl⟩
theorem Bk.seven {w:World} {b:Nat} {t:TypeId} {x0 x1 x2 x3 x4 x5 x6:Value} (h:Bk w b t [x0,x1,x2,x3,x4,x5,x6]):w.cell? ⟨b,0,none⟩=some x0∧w.cell? ⟨b,1,none⟩=some x1∧w.cell? ⟨b,2,none⟩=some x2∧w.cell? ⟨b,3,none⟩=some x3 ∧
  w.cell? ⟨b,4,none⟩=some x4∧w.cell? ⟨b,5,none⟩=some x5∧w.cell? ⟨b,6,none⟩=some x6:=
 ⟨h.cell 0,h.cell 1,h.cell 2,h.cell 3,h.cell 4,h.cell 5,h.cell 6⟩
structure Rdi where
 b:Nat
 off:Nat
 cap:Nat
 n:Nat
 M:Nat→Mk
 lt:Int
 lf:Int
 la:Int
 ln:Int
theorem aC (m:Mk):∀ v∈mkC m,v.oneCell'=true:=by
 intro v hv
 simp only[mkC,List.mem_cons,List.not_mem_nil,or_false] at hv
 rcases hv with rfl|rfl|rfl|rfl<;>rfl
theorem aG (W:World) (a:Addr) (x y:Nat):(store a (.complex .f64 x y)).run Tryz.prog W=match W.cell? a with
   | some _ => if W.frozen? a then .halt (.unsupported (.unsafePointer "a write to bytes that a string shares")) W else .ok () (W.setCell a (.complex .f64 x y))
   |none=>match W.farStore Tryz.prog a (.complex .f64 x y) (Mode.plain==.atomic) with
    |.ok (w',_)=>.ok () w'
    |.error h=>.halt h W:=run_store Tryz.prog W a (.complex .f64 x y) .plain rfl
theorem Bk.four {w:World} {b:Nat} {t:TypeId} {x y z u:Value} (h:Bk w b t [x,y,z,u]):w.cell? ⟨b,0,none⟩=some x∧w.cell? ⟨b,1,none⟩=some y∧w.cell? ⟨b,2,none⟩=some z∧w.cell? ⟨b,3,none⟩=some u:=
 ⟨h.cell 0,h.cell 1,h.cell 2,h.cell 3⟩
abbrev mz:Array Value:=#[.int .i64 0,.string ⟨#[]⟩,.complex .f64 0 0,.int .i64 0]
theorem w64k (k:Nat) (h:k≤2000000):wrap64 ((k:Int)+1)=((k+1:Nat):Int):=by simp only[wrap64];omega
theorem bJ {α β:Type} {r:Rs β} {q:Rs α} {g:α→Nat→Rs β} (h:Hid (r=q.bind g)) (hr:r≠.out):q≠.out:=by
 intro e
 rw[show r=_ from h,e] at hr
 exact hr rfl
theorem bind_ok {α β:Type} {r:Rs β} {q:Rs α} {g:α→Nat→Rs β} {a:α} {k:Nat} (h:Hid (r=q.bind g)) (hq:q=.ok a k):Hid (r=g a k):=by
 show r=_
 rw[show r=_ from h,hq]
 rfl
theorem bH {α β:Type} {r:Rs β} {q:Rs α} {g:α→Nat→Rs β} {y:Int} {k:Nat} (h:Hid (r=q.bind g)) (hq:q=.bad y k):Hid (r=.bad y k):=by
 show r=_
 rw[show r=_ from h,hq]
 rfl
theorem tk_eq (I:Rdi) (s:List UInt8) (k:Nat):((bs (I.M k).text).toList==(bs s).toList)=tk I.M s k:=by rw[aF,aF];rfl
theorem fld (j:Nat) (k t n a v:Value) (h:[k,t,n,a][j]?=some v) (W:World):(Instr.field 135 (.agg #[k,t,n,a]) j).run Tryz.prog W=.ok v W:=by
 unfold Instr.field
 rw[Sem.run_bind,run_underlying (show Tryz.prog.underlying 135=some (.struct (Tryz.prog.underlying 135 |>.map (fun|.struct f=>f|_=>#[]) |>.getD #[])) by kernel_rfl) W]
 match j,h with
 |0,h=>cases h;rfl
 |1,h=>cases h;rfl
 |2,h=>cases h;rfl
 |3,h=>cases h;rfl
theorem fldM (m:Mk) (W:World):(Instr.field 135 (.agg #[.int .i64 m.kind,.string (bs m.text),.complex .f64 (fl m.p) (fl m.q),.int .i64 m.at_]) 0).run Tryz.prog W=.ok (.int .i64 m.kind) W ∧
  (Instr.field 135 (.agg #[.int .i64 m.kind,.string (bs m.text),.complex .f64 (fl m.p) (fl m.q),.int .i64 m.at_]) 1).run Tryz.prog W=.ok (.string (bs m.text)) W ∧
  (Instr.field 135 (.agg #[.int .i64 m.kind,.string (bs m.text),.complex .f64 (fl m.p) (fl m.q),.int .i64 m.at_]) 2).run Tryz.prog W=.ok (.complex .f64 (fl m.p) (fl m.q)) W ∧
  (Instr.field 135 (.agg #[.int .i64 m.kind,.string (bs m.text),.complex .f64 (fl m.p) (fl m.q),.int .i64 m.at_]) 3).run Tryz.prog W=.ok (.int .i64 m.at_) W:=
 ⟨fld 0 _ _ _ _ _ rfl W,fld 1 _ _ _ _ _ rfl W,fld 2 _ _ _ _ _ rfl W,fld 3 _ _ _ _ _ rfl W⟩
def lmOf (I:Rdi):Lm:=⟨I.lf,I.la,I.ln⟩
abbrev ez:Array Value:=#[.int .i64 0,.string ⟨#[]⟩,.string ⟨#[]⟩,.int .i64 0,.complex .f64 0 0,.slice none 0 0,.int .i64 0]
theorem Tryz.infoE:(Tryz.prog.info? 58).map (·.size)=some 7:=by kernel_rfl
theorem Tryz.underE:Tryz.prog.underlying 58=some (.struct (Tryz.prog.underlying 58 |>.map (fun|.struct f=>f|_=>#[]) |>.getD #[])):=by kernel_rfl
theorem iQ {w w':World} (o:Obj) (h:Below w.heap.size w w'):Below w.heap.size w (w'.alloc o):=h.alloc h.size o
theorem ExW.up {w w':World} {A:Nat→Prop} {e:Ex} {vs:List Value} (h:ExW w A e vs) (hb:Below w.heap.size w w'):ExW w' A e vs:=h.keep fun b _ hl=>hb.block b hl
theorem Bk.rng {w:World} {b:Nat} {t:TypeId} {vs:List Value} (h:Bk w b t vs) (o:Nat) (xs:List Value) (hx:∀ j v,xs[j]?=some v→vs[o+j]?=some v):w.rangeAt b o xs:=by
 intro j v hv
 rw[h.cell]
 exact hx j v hv
theorem Bk.newAt {w:World} {n:Nat} (t:TypeId) (vs:Array Value) (hn:w.heap.size=n):Bk (w.alloc (.cells vs t)) n t vs.toList:=by rw[← hn];exact Bk.new w t vs
theorem elv2 {w:World} {A:Nat→Prop} {g:Nat} {a b:Ex} {va vb:List Value} {t:TypeId} (hg:A g) (hk:Bk w g t (va++vb)) (ha:ExW w A a va) (hb:ExW w A b vb):ElW w A (some ⟨g,0,none⟩) [a,b]:=by
 refine .cons hg (hk.rng 0 va fun j v hv=>?_) ha (.cons hg (hk.rng (0+7) vb fun j v hv=>?_) hb .nil)
 ·have:=(List.getElem?_eq_some_iff.1 hv).1
  rw[Nat.zero_add,List.getElem?_append_left this];exact hv
 ·rw[List.getElem?_append_right (by rw[ha.len];omega),ha.len,show 0+7+j-7=j by omega];exact hv
theorem elv1 {w:World} {A:Nat→Prop} {g:Nat} {a:Ex} {va:List Value} {t:TypeId} (hg:A g) (hk:Bk w g t va) (ha:ExW w A a va):ElW w A (some ⟨g,0,none⟩) [a]:=by
 refine .cons hg (hk.rng 0 va fun j v hv=>?_) ha .nil
 rw[Nat.zero_add];exact hv
theorem elv3 {w:World} {A:Nat→Prop} {g:Nat} {a b c:Ex} {va vb vc:List Value} {t:TypeId} (hg:A g) (hk:Bk w g t (va++vb++vc)) (ha:ExW w A a va) (hb:ExW w A b vb) (hc:ExW w A c vc):ElW w A (some ⟨g,0,none⟩) [a,b,c]:=by
 have la:=ha.len
 have lb:=hb.len
 refine .cons hg (hk.rng 0 va fun j v hv=>?_) ha (.cons hg (hk.rng (0+7) vb fun j v hv=>?_) hb (.cons hg (hk.rng (0+7+7) vc fun j v hv=>?_) hc .nil))
 ·have:=(List.getElem?_eq_some_iff.1 hv).1
  rw[Nat.zero_add,List.append_assoc,List.getElem?_append_left this];exact hv
 ·have:=(List.getElem?_eq_some_iff.1 hv).1
  rw[List.append_assoc,List.getElem?_append_right (by omega),la,show 0+7+j-7=j by omega,List.getElem?_append_left this];exact hv
 ·rw[List.getElem?_append_right (by rw[List.length_append];omega),List.length_append,la,lb,show 0+7+7+j-(7+7)=j by omega];exact hv
theorem dm {w:World} {A:Nat→Prop} {op:Int} {name tail:List UInt8} {ty:Int} {xs:List Ex} {pos:Nat} {ao:Option Addr} {c n:Nat} (h:ElW w A ao xs) (hn:n=xs.length) :
  ExW w A (.mk op name tail ty 0 0 xs pos) [.int .i64 op,.string (bs name),.string (bs tail),.int .i64 ty,.complex .f64 0 0,.slice ao n c,.int .i64 pos]:=by
 have:=ExW.mk (op:=op) (name:=name) (tail:=tail) (ty:=ty) (p:=0) (q:=0) (pos:=pos) (c:=c) h
 rw[fE] at this
 rw[hn]
 exact this
theorem onc1 (v:Value) (h:v.oneCell'=true):∀ u∈[v],u.oneCell'=true:=by
 intro u hu
 simp only[List.mem_cons,List.not_mem_nil,or_false] at hu
 rw[hu]
 exact h
theorem onc2 (a b:Value) (ha:a.oneCell'=true) (hb:b.oneCell'=true):∀ u∈[a,b],u.oneCell'=true:=by
 intro u hu
 simp only[List.mem_cons,List.not_mem_nil,or_false] at hu
 rcases hu with rfl|rfl
 ·exact ha
 ·exact hb
theorem Bk.two {w:World} {b:Nat} {t:TypeId} {x y:Value} (h:Bk w b t [x,y]):w.cell? ⟨b,0,none⟩=some x∧w.cell? ⟨b,1,none⟩=some y:=⟨h.cell 0,h.cell 1⟩
end Go.Proofs.YtimoappbefindaaGreat
