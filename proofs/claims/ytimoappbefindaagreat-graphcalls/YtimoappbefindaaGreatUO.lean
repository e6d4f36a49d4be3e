/-
  3 texts in one: what each proves stands at its head.
-/
import Derived.Test.YtimoappbefindaaGreatUI
import Derived.Test.YtimoappbefindaaGreatUA
import Derived.Test.YtimoappbefindaaGreatUH
import Derived.RegionTactic
import Derived.Deep.DeepCutAuto
import Derived.Deep.RegionWith
import Derived.Test.YtimoappbefindaaGreatUM
namespace Go.Proofs.YtimoappbefindaaGreat
open Go.RowKit
set_option maxRecDepth 100000
theorem ElW.at {w:World} {A:Nat→Prop}:∀ {xs:List Ex} {b off:Nat},ElW w A (some ⟨b,off,none⟩) xs→∀ k,k<xs.length→∃ vs,w.rangeAt b (off+k*7) vs∧ExW w A (xs.getD k ed) vs
 |[],_,_,_,k,hk=>by simp at hk
 |_::_,_,_,h,0,_=>by
  cases h with
  |cons h1 h2 h3 h4=>exact⟨_,by simpa using h2,h3⟩
 |_::_,_,off,h,k+1,hk=>by
  cases h with
  |cons h1 h2 h3 h4=>
   obtain⟨vs,a,b⟩:=h4.at k (by simpa using hk)
   refine⟨vs,?_,by rw[List.getD_cons_succ];exact b⟩
   rw[show off+(k+1)*7=off+7+k*7 by omega]
   exact a
theorem ElW.place {w:World} {A:Nat→Prop} {ao:Option Addr} {xs:List Ex} (h:ElW w A ao xs) (hx:xs≠[]):∃ b off,ao=some ⟨b,off,none⟩:=by
 cases h with
 |nil=>exact absurd rfl hx
 |cons=>exact⟨_,_,rfl⟩
theorem ElW.up {w w':World} {A:Nat→Prop} {ao:Option Addr} {xs:List Ex} (h:ElW w A ao xs) (hb:Below w.heap.size w w'):ElW w' A ao xs:=h.keep fun b _ hl=>hb.block b hl
theorem oU {w:World} {b o:Nat} {x0 x1 x2 x3 x4 x5 x6:Value} (h:w.rangeAt b o [x0,x1,x2,x3,x4,x5,x6]):w.cell? ⟨b,o,none⟩=some x0∧w.cell? ⟨b,o+1,none⟩=some x1∧w.cell? ⟨b,o+2,none⟩=some x2∧w.cell? ⟨b,o+3,none⟩=some x3 ∧
  w.cell? ⟨b,o+4,none⟩=some x4∧w.cell? ⟨b,o+5,none⟩=some x5∧w.cell? ⟨b,o+6,none⟩=some x6:=
 ⟨h 0 _ rfl,h 1 _ rfl,h 2 _ rfl,h 3 _ rfl,h 4 _ rfl,h 5 _ rfl,h 6 _ rfl⟩
/-! ## nest -/
theorem nW:∀ (ps:List Pm) (k j:Nat) (v:Value),k<ps.length→(pmC (ps.getD k pd))[j]?=some v→(pmsC ps)[k*3+j]?=some v
 |[],k,_,_,h,_=>by simp at h
 |p::ps,0,j,v,_,h=>by
  rw[List.getD_cons_zero] at h
  have hj:=(List.getElem?_eq_some_iff.1 h).1
  rw[show pmsC (p::ps)=pmC p++pmsC ps from rfl,Nat.zero_mul,Nat.zero_add,List.getElem?_append_left hj]
  exact h
 |p::ps,k+1,j,v,hk,h=>by
  rw[show pmsC (p::ps)=pmC p++pmsC ps from rfl,show (k+1)*3+j=3+(k*3+j) by omega,List.getElem?_append_right (by simp[pmC]),show 3+(k*3+j)-(pmC p).length=k*3+j by simp[pmC]]
  exact nW ps k j v (by simpa using hk) (by rwa[List.getD_cons_succ] at h)
theorem PlW.at {w:World} {A:Nat→Prop} {ao:Option Addr} {ps:List Pm} (h:PlW w A ao ps) (k:Nat) (hk:k<ps.length):∃ g,ao=some ⟨g,0,none⟩∧w.rangeAt g (k*3) (pmC (ps.getD k pd)):=by
 rcases h with h|⟨g,e,_,_,hr⟩
 ·rw[h] at hk;simp at hk
 ·refine⟨g,e,fun j v hv=>?_⟩
  have:=hr (k*3+j) v (nW ps k j v hk hv)
  rwa[Nat.zero_add] at this
theorem FsW.at {w:World} {A:Nat→Prop}:∀ {gs:List Fn1} {cs:List Value},FsW w A gs cs→∀ k,k<gs.length→∃ vs,(∀ j v,vs[j]?=some v→cs[k*11+j]?=some v)∧FnW w A (gs.getD k fd) vs
 |[],_,_,k,hk=>by simp at hk
 |_::_,_,h,0,_=>by
  cases h with
  |cons h1 h2=>
   refine⟨_,fun j v hv=>?_,h1⟩
   rw[Nat.zero_mul,Nat.zero_add,List.getElem?_append_left (List.getElem?_eq_some_iff.1 hv).1]
   exact hv
 |_::_,_,h,k+1,hk=>by
  cases h with
  |cons h1 h2=>
   obtain⟨vs,a,b⟩:=h2.at k (by simpa using hk)
   have hl:=h1.len
   refine⟨vs,fun j v hv=>?_,by rw[List.getD_cons_succ];exact b⟩
   rw[show (k+1)*11+j=11+(k*11+j) by omega,List.getElem?_append_right (by omega),hl,show 11+(k*11+j)-11=k*11+j by omega]
   exact a j v hv
theorem FlW.at {w:World} {A:Nat→Prop} {ao:Option Addr} {gs:List Fn1} (h:FlW w A ao gs) (k:Nat) (hk:k<gs.length):∃ g vs,ao=some ⟨g,0,none⟩∧A g∧w.rangeAt g (k*11) vs∧FnW w A (gs.getD k fd) vs:=by
 rcases h with h|⟨g,cs,e,hA,_,hr,hf⟩
 ·rw[h] at hk;simp at hk
 ·obtain⟨vs,a,b⟩:=hf.at k hk
  refine⟨g,vs,e,hA,fun j v hv=>?_,b⟩
  have:=hr (k*11+j) v (a j v hv)
  rwa[Nat.zero_add] at this
theorem fJ {w:World} {b o:Nat} {x0 x1 x2 x3 x4 x5 x6 x7 x8 x9 x10:Value} (h:w.rangeAt b o [x0,x1,x2,x3,x4,x5,x6,x7,x8,x9,x10]):w.cell? ⟨b,o,none⟩=some x0∧w.cell? ⟨b,o+1,none⟩=some x1∧w.cell? ⟨b,o+2,none⟩=some x2∧w.cell? ⟨b,o+3,none⟩=some x3 ∧
  w.cell? ⟨b,o+4,none⟩=some x4∧w.cell? ⟨b,o+5,none⟩=some x5∧w.cell? ⟨b,o+6,none⟩=some x6∧w.cell? ⟨b,o+7,none⟩=some x7∧w.cell? ⟨b,o+8,none⟩=some x8∧w.cell? ⟨b,o+9,none⟩=some x9∧w.cell? ⟨b,o+10,none⟩=some x10:=
 ⟨h 0 _ rfl,h 1 _ rfl,h 2 _ rfl,h 3 _ rfl,h 4 _ rfl,h 5 _ rfl,h 6 _ rfl,h 7 _ rfl,h 8 _ rfl,h 9 _ rfl,h 10 _ rfl⟩
theorem sJ {w:World} {b o:Nat} {x0 x1 x2:Value} (h:w.rangeAt b o [x0,x1,x2]):w.cell? ⟨b,o,none⟩=some x0∧w.cell? ⟨b,o+1,none⟩=some x1∧w.cell? ⟨b,o+2,none⟩=some x2:=
 ⟨h 0 _ rfl,h 1 _ rfl,h 2 _ rfl⟩
theorem FlW.keep2 {w w':World} {A:Nat→Prop} {ao:Option Addr} {gs:List Fn1} (h:FlW w A ao gs) (hs:w.heap.size≤w'.heap.size) (hk:∀ b,A b→b<w.heap.size→w'.heap[b]?=w.heap[b]?):FlW w' A ao gs:=by
 rcases h with h|⟨g,cs,e,ha,hl,hr,hf⟩
 ·exact .inl h
 ·refine .inr ⟨g,cs,e,ha,by omega,fun j v hv=>?_,hf.keep hs hk⟩
  rw[show w'.cell? ⟨g,0+j,none⟩=w.cell? ⟨g,0+j,none⟩ from World.cell?_of_block (w:=w) (hk g ha hl)]
  exact hr j v hv
theorem FnW.up {w w':World} {A:Nat→Prop} {g:Fn1} {vs:List Value} (h:FnW w A g vs) (hb:Below w.heap.size w w'):FnW w' A g vs:=h.keep hb.size fun b _ hl=>hb.block b hl
theorem FlW.up {w w':World} {A:Nat→Prop} {ao:Option Addr} {gs:List Fn1} (h:FlW w A ao gs) (hb:Below w.heap.size w w'):FlW w' A ao gs:=h.keep2 hb.size fun b _ hl=>hb.block b hl
theorem PlW.up {w w':World} {A:Nat→Prop} {ao:Option Addr} {ps:List Pm} (h:PlW w A ao ps) (hb:Below w.heap.size w w'):PlW w' A ao ps:=h.keep hb.size fun b _ hl=>hb.block b hl
end Go.Proofs.YtimoappbefindaaGreat
