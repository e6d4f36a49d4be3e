/-
  1 texts in one: what each proves stands at its head.
-/
import Derived.Test.YtimoappbefindaaGreatUI
import Derived.Deep.RegionHeld2
import Derived.RegionTactic
namespace Go.Proofs.YtimoappbefindaaGreat
open Go.RowKit
set_option maxRecDepth 100000
namespace Rv
def upd (d:Nat→Bool) (i:Nat):Nat→Bool:=fun j=>j==i||d j
theorem bA (l:Array Bool) (i:Nat) (hi:i<l.size):(fun j=>(l.setIfInBounds i true).getD j false)=upd (fun j=>l.getD j false) i:=by
 funext j
 unfold upd
 by_cases h:j=i
 ·subst h
  simp[hi]
 ·have h2:¬ i=j:=fun e=>h e.symm
  simp[h,h2]
theorem upd_ne {d:Nat→Bool} {k j:Nat} (h:j≠k) (hd:upd d k j=true):d j=true:=by
 unfold upd at hd
 simpa [h] using hd
theorem di:∀ (l:List Bool) (i:Nat),l[i]?=some false→(l.set i true).count false+1=l.count false
 |[],i,h=>by simp at h
 |b::r,0,h=>by simp at h;subst h;simp
 |b::r,i+1,h=>by
  have:=di r i (by simpa using h)
  simp only[List.set_cons_succ,List.count_cons]
  omega
theorem bq {md:Region.Mode} {ops:Array Oper} {l:Array Bool} {i:Nat} (h:i∈Region.ready md ops l):l.getD i true=false∧i<ops.size:=by
 unfold Region.ready at h
 simp only[List.mem_filter,List.mem_range,Bool.and_eq_true,Bool.not_eq_true'] at h
 exact⟨h.2.1,h.1⟩
theorem bT {l:Array Bool} {i:Nat} (h:l.getD i true=false):i<l.size∧l.toList[i]?=some false:=by
 by_cases hi:i<l.size
 ·refine⟨hi,?_⟩
  simp[hi] at h
  simp[hi,h]
 ·simp[hi] at h
theorem dx {P:Program} {md:Region.Mode} {ops:Array Oper} {Q:Exit→Act→World→Prop} (I:Array Bool→Act→World→Prop)
  (step:∀ l a w i,i∈Region.ready md ops l→I l a w→wpOp P ops Q i (fun a' w'=>I (l.setIfInBounds i true) a' w') a w)
  (fin:∀ l a w,Region.ready md ops l=[]→I l a w→Q .normal a w):∀ (fuel:Nat) (l:Array Bool) (a:Act) (w:World),l.toList.count false≤fuel→I l a w→wpAny P md ops Q fuel l a w:=by
 intro fuel
 induction fuel with
 |zero=>
  intro l a w hc hI
  have hr:Region.ready md ops l=[]:=by
   cases e:Region.ready md ops l with
   |nil=>rfl
   |cons i r=>
    exfalso
    have hm:i∈Region.ready md ops l:=by rw[e];simp
    have h1:=(bT (bq hm).1).2
    have h2:=di l.toList i h1
    omega
  exact⟨hr,fin l a w hr hI⟩
 |succ fuel ih=>
  intro l a w hc hI
  refine⟨fun hr=>fin l a w hr hI,fun i hi=>?_⟩
  refine wpOp_mono (fun a' w' h'=>ih _ a' w' ?_ h') (step l a w i hi hI)
  have h1:=(bT (bq hi).1).2
  have h2:=di l.toList i h1
  have h3:(l.setIfInBounds i true).toList=l.toList.set i true:=by simp
  rw[h3]
  omega
def ev (a:Act) (k:Nat):Value:=a.eval (.tmp k)
theorem dn (a:Act) (k:Nat) (v:Value) (hk:k<a.tmps.size) (j:Nat):ev (a.put (some k) v) j=if j=k then v else ev a j:=by
 unfold ev Act.put Act.eval
 by_cases h:j=k
 ·subst h
  simp[hk]
 ·have h2:¬ k=j:=fun e=>h e.symm
  simp[h,h2]
theorem mK {a:Act} {k:Nat} {v:Value} (h:ev a k=v) (hk:k<a.tmps.size):a.tmps[k]?=some v:=by
 unfold ev Act.eval at h
 simp[hk] at h
 simp[hk,h]
def deps (ops:Array Oper) (i:Nat):List Nat:=match ops[i]? with|some o=>(o.after.toList.filter (Region.binds .any)).map (·.on)|none=>[]
theorem dh {ops:Array Oper} {l:Array Bool} {i:Nat} (h:i∈Region.ready .any ops l):∀ j∈deps ops i,l.getD j false=true:=by
 obtain⟨_,hi⟩:=bq h
 unfold Region.ready at h
 simp only[List.mem_filter,List.mem_range,Bool.and_eq_true] at h
 have h4:=h.2.2
 unfold deps
 rw[Array.getElem?_eq_getElem hi] at h4 ⊢
 simp only[Option.map_some,Option.getD_some] at h4
 intro j hj
 simp only[List.mem_map,List.mem_filter] at hj
 obtain⟨e,⟨he,hb⟩,rfl⟩:=hj
 rw[Array.all_eq_true_iff_forall_mem] at h4
 have:=h4 e (by simpa using he)
 rw[hb] at this
 simpa using this
theorem dN {ops:Array Oper} {l:Array Bool} (hl:l.size=ops.size) (hlow:∀ i,i<ops.size→∀ j∈deps ops i,j<i) (h:Region.ready .any ops l=[]):∀ i,i<ops.size→l.getD i false=true:=by
 intro i
 induction i using Nat.strongRecOn with
 |ind i ih=>
  intro hi
  have hd:∀ j∈deps ops i,l.getD j false=true:=fun j hj=>ih j (hlow i hi j hj) (by have:=hlow i hi j hj;omega)
  cases e:l.getD i false with
  |true=>rfl
  |false=>
   exfalso
   unfold Region.ready at h
   rw[List.filter_eq_nil_iff] at h
   refine h i (List.mem_range.2 hi) ?_
   have e1:l.getD i true=false:=by
    have hil:i<l.size:=by omega
    simp[hil] at e ⊢
    exact e
   rw[e1,Array.getElem?_eq_getElem hi]
   simp only[Option.map_some,Option.getD_some,Bool.not_false,Bool.true_and]
   rw[Array.all_eq_true_iff_forall_mem]
   intro x hx
   cases hb:Region.binds .any x with
   |false=>rfl
   |true=>
    have:l.getD x.on false=true:=hd x.on (by
     unfold deps
     rw[Array.getElem?_eq_getElem hi]
     simp only[List.mem_map,List.mem_filter]
     exact⟨x,⟨by simpa using hx,hb⟩,rfl⟩)
    rw[this]
    rfl
structure Off (N:Nat) (slot:Nat→Nat) (a0 a:Act):Prop where
 def_:a.defers=a0.defers
 size:a.tmps.size=a0.tmps.size
 same:∀ k,(∀ j,j<N→k≠slot j)→ev a k=ev a0 k
section
variable {P:Program} {ops:Array Oper} {Q:Exit→Act→World→Prop} {X0:World} {a0:Act} (N:Nat) (slot:Nat→Nat) (V:Nat→Value)
theorem region (hN:ops.size=N) (hlow:∀ i,i<N→∀ j∈deps ops i,j<i) (hinj:∀ i,i<N→∀ j,j<N→j≠i→slot j≠slot i) (hsz:∀ j,j<N→slot j<a0.tmps.size) {w0:World} (hw:Below X0.heap.size X0 w0)
  (hstep:∀ i a w,i<N→Off N slot a0 a→Below X0.heap.size X0 w→(∀ j∈deps ops i,ev a (slot j)=V j)→wpOp P ops Q i (fun a' w'=>a'=a.put (some (slot i)) (V i)∧Below X0.heap.size X0 w') a w)
  (hQ:∀ a w,Off N slot a0 a→Below X0.heap.size X0 w→(∀ j,j<N→ev a (slot j)=V j)→Q .normal a w):wpAny P .any ops Q N (Array.replicate N false) a0 w0:=by
 refine dx (fun l a w=>l.size=N∧Off N slot a0 a∧Below X0.heap.size X0 w∧∀ j,j<N→l.getD j false=true→ev a (slot j)=V j) ?_ ?_ N _ _ _ (by simp) ⟨by simp,⟨rfl,rfl,fun _ _=>rfl⟩,hw,?_⟩
 ·rintro l a w i hi ⟨hl,hO,hB,hf⟩
  obtain⟨hi1,hi2⟩:=bq hi
  rw[hN] at hi2
  have hdn:=dh hi
  refine wpOp_mono ?_ (hstep i a w hi2 hO hB fun j hj=>hf j (by have:=hlow i hi2 j hj;omega) (hdn j hj))
  rintro a' w' ⟨rfl,hB'⟩
  have hs:slot i<a.tmps.size:=by rw[hO.size];exact hsz i hi2
  refine⟨by simp[hl],⟨hO.def_,by rw[← hO.size];simp[Act.put],fun k hk=>?_⟩,hB',fun j hj hd=>?_⟩
  ·rw[dn a _ _ hs,if_neg (hk i hi2)]
   exact hO.same k hk
  ·rw[dn a _ _ hs]
   by_cases e:j=i
   ·subst e
    exact if_pos rfl
   ·rw[if_neg (hinj i hi2 j hj e)]
    refine hf j hj ?_
    have:=congrFun (bA l i (by omega)) j
    rw[this] at hd
    exact upd_ne e hd
 ·rintro l a w hr ⟨hl,hO,hB,hf⟩
  have:=dN (by omega) (by rw[hN];exact hlow) hr
  rw[hN] at this
  exact hQ a w hO hB fun j hj=>hf j hj (this j hj)
 ·intro j hj hd
  simp[hj] at hd
end
structure Offs (N:Nat) (dst:Nat→Option Nat) (a0 a:Act):Prop where
 def_:a.defers=a0.defers
 size:a.tmps.size=a0.tmps.size
 same:∀ k,(∀ j,j<N→dst j≠some k)→ev a k=ev a0 k
theorem region2 {P:Program} {ops:Array Oper} {Q:Exit→Act→World→Prop} {a0:Act} (N:Nat) (dst:Nat→Option Nat) (V:Nat→Value) (J:(Nat→Bool)→World→Prop) (hN:ops.size=N) (hlow:∀ i,i<N→∀ j∈deps ops i,j<i) (hinj:∀ i,i<N→∀ j,j<N→j≠i→∀ s,dst i=some s→dst j≠some s) (hsz:∀ j,j<N→∀ s,dst j=some s→s<a0.tmps.size) {w0:World} (hw:J (fun _=>false) w0)
  (hstep:∀ d i a w,i<N→d i=false→(∀ j∈deps ops i,d j=true)→(∀ j,d j=true→j<N)→Offs N dst a0 a→J d w→(∀ j∈deps ops i,∀ s,dst j=some s→ev a s=V j)→wpOp P ops Q i (fun a' w'=>a'=a.put (dst i) (V i)∧J (upd d i) w') a w)
  (hQ:∀ d a w,(∀ j,j<N→d j=true)→Offs N dst a0 a→J d w→(∀ j,j<N→∀ s,dst j=some s→ev a s=V j)→Q .normal a w):wpAny P .any ops Q N (Array.replicate N false) a0 w0:=by
 have hd0:(fun j=>(Array.replicate N false).getD j false)=fun _:Nat=>false:=by
  funext j
  by_cases h:j<N<;>simp[h]
 refine dx (fun l a w=>l.size=N∧Offs N dst a0 a∧J (fun j=>l.getD j false) w∧∀ j,j<N→l.getD j false=true→∀ s,dst j=some s→ev a s=V j) ?_ ?_ N _ _ _ (by simp) ⟨by simp,⟨rfl,rfl,fun _ _=>rfl⟩,by rw[hd0];exact hw,?_⟩
 ·rintro l a w i hi ⟨hl,hO,hJ,hf⟩
  obtain⟨hi1,hi2⟩:=bq hi
  rw[hN] at hi2
  have hdn:=dh hi
  have hi3:l.getD i false=false:=by
   have:=(bT hi1).1
   simp[this] at hi1 ⊢
   exact hi1
  refine wpOp_mono ?_ (hstep (fun j=>l.getD j false) i a w hi2 hi3 hdn (fun j hj=>by
   rcases Nat.lt_or_ge j N with h|h
   ·exact h
   ·exfalso
    have:¬ j<l.size:=by omega
    simp[this] at hj) hO hJ fun j hj s hs=>hf j (by have:=hlow i hi2 j hj;omega) (hdn j hj) s hs)
  rintro a' w' ⟨rfl,hJ'⟩
  refine⟨by simp[hl],⟨?_,?_,fun k hk=>?_⟩,by rw[bA l i (by omega)];exact hJ',fun j hj hd s hs=>?_⟩
  ·cases dst i<;>exact hO.def_
  ·cases h:dst i with
   |none=>exact hO.size
   |some s=>rw[← hO.size];simp[Act.put]
  ·cases h:dst i with
   |none=>exact hO.same k hk
   |some s=>
    have hs:s<a.tmps.size:=by rw[hO.size];exact hsz i hi2 s h
    rw[dn a _ _ hs,if_neg (fun e=>hk i hi2 (by rw[h,e]))]
    exact hO.same k hk
  ·have hdj:j≠i→l.getD j false=true:=fun e=>by
    have:=congrFun (bA l i (by omega)) j
    rw[this] at hd
    exact upd_ne e hd
   cases h:dst i with
   |none=>
    by_cases e:j=i
    ·subst e;rw[h] at hs;cases hs
    ·exact hf j hj (hdj e) s hs
   |some t=>
    have ht:t<a.tmps.size:=by rw[hO.size];exact hsz i hi2 t h
    rw[dn a _ _ ht]
    by_cases e:j=i
    ·subst e
     rw[h] at hs
     cases hs
     exact if_pos rfl
    ·rw[if_neg (fun x=>hinj i hi2 j hj e t h (by rw[hs,x]))]
     exact hf j hj (hdj e) s hs
 ·rintro l a w hr ⟨hl,hO,hJ,hf⟩
  have:=dN (by omega) (by rw[hN];exact hlow) hr
  rw[hN] at this
  exact hQ _ a w this hO hJ fun j hj s hs=>hf j hj (this j hj) s hs
 ·intro j hj hd
  simp[hj] at hd
section
variable {P:Program} {ops:Array Oper} {Q:Exit→Act→World→Prop} {X0:World} {i:Nat} {o:Oper} {a:Act} {w:World} {v:Value} {s:Nat}
theorem wp (ho:ops[i]?=some o) (hw:Region.wanted o (yielded ops a.tmps)=true) {K:Act→World→Prop} (h:Oper.wp P o a w K Q):wpOp P ops Q i K a w:=by
 unfold wpOp
 rw[ho]
 show if Region.wanted o (yielded ops a.tmps)=true then _ else _
 rw[if_pos hw]
 exact .inl h
theorem run (ho:ops[i]?=some o) (hd:o.dst=some s) (hw:Region.wanted o (yielded ops a.tmps)=true) (hr:(execOp a.eval o).run P w=.ok (.value v) w) (hB:Below X0.heap.size X0 w):wpOp P ops Q i (fun a' w'=>a'=a.put (some s) v∧Below X0.heap.size X0 w') a w:=by
 refine wp ho hw ?_
 unfold Oper.wp
 rw[hr]
 show a.put o.dst v=_∧_
 rw[hd]
 exact⟨rfl,hB⟩
theorem call {f:Nat} {vs:Array Value} (ho:ops[i]?=some o) (hd:o.dst=some s) (hw:Region.wanted o (yielded ops a.tmps)=true) (hr:(execOp a.eval o).run P w=.ok (.enter f vs) w) (hB:Below X0.heap.size X0 w)
  (hc:Calls P f vs w fun e w'=>e=.returned v∧Below w.heap.size w w'):wpOp P ops Q i (fun a' w'=>a'=a.put (some s) v∧Below X0.heap.size X0 w') a w:=by
 refine wp ho hw ?_
 unfold Oper.wp
 rw[hr,Oper.upon_enter]
 refine hc.mono ?_
 rintro e w' ⟨rfl,hb⟩
 show a.put o.dst v=_∧_
 rw[hd]
 exact⟨rfl,Below.thn hB hb⟩
theorem skip (ho:ops[i]?=some o) (hd:o.dst=some s) (hw:Region.wanted o (yielded ops a.tmps)=false) (hB:Below X0.heap.size X0 w):wpOp P ops Q i (fun a' w'=>a'=a.put (some s) undef∧Below X0.heap.size X0 w') a w:=by
 unfold wpOp
 rw[ho]
 show if Region.wanted o (yielded ops a.tmps)=true then _ else _
 rw[if_neg (by rw[hw];decide)]
 show a.put o.dst undef=_∧_
 rw[hd]
 exact⟨rfl,hB⟩
theorem want_free (hg:o.guard=none) {y:Nat→Option Bool}:Region.wanted o y=true:=by
 unfold Region.wanted
 rw[hg]
theorem want_if {j:Nat} {o':Oper} {b b':Bool} (hg:o.guard=some (j,b')) (ho:ops[j]?=some o') (hd:o'.dst=some s) (hs:s<a.tmps.size) (hv:ev a s=.bool b):Region.wanted o (yielded ops a.tmps)=(b==b'):=by
 have e2:=mK hv hs
 have e3:yielded ops a.tmps j=some b:=by
  unfold yielded
  rw[ho]
  simp only[Option.bind_some,hd,e2]
 unfold Region.wanted
 rw[hg]
 show (yielded ops a.tmps j==some b')=_
 rw[e3]
 cases b<;>cases b'<;>rfl
end
end Rv
end Go.Proofs.YtimoappbefindaaGreat
