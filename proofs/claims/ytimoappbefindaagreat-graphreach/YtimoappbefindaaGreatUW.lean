/-
  11 texts in one: what each proves stands at its head.
-/
import Derived.Test.YtimoappbefindaaGreatUA
import Derived.Test.YtimoappbefindaaGreatUC
namespace Go.Proofs.YtimoappbefindaaGreat
def Ex.op:Ex→Int
 |.mk op _ _ _ _ _ _ _=>op
set_option maxHeartbeats 2000000
inductive Shp (Nm:List UInt8→Prop) (Nu:Int→Int→Prop):Int→List UInt8→List UInt8→Int→Int→Int→Nat→Prop
 |num {p q:Int}:Nu p q→Shp Nm Nu 1 [] [] 0 p q 0
 |word {op:Int}:op=2∨op=3∨op=4→Shp Nm Nu op [] [] 0 0 0 0
 |fail {ty:Int}:ty=1∨ty=2∨ty=3→Shp Nm Nu 5 [] [] ty 0 0 0
 |var {x:List UInt8}:Nm x→Shp Nm Nu 6 x [] 0 0 0 0
 |call {x:List UInt8} {n:Nat}:Nm x→Shp Nm Nu 7 x [] 0 0 0 n
 |one {op:Int}:op=14∨op=15∨op=16∨op=17→Shp Nm Nu op [] [] 0 0 0 1
 |two {op:Int}:op=18∨op=12∨op=13∨op=8∨op=9∨op=10∨op=11→Shp Nm Nu op [] [] 0 0 0 2
 |cond:Shp Nm Nu 19 [] [] 0 0 0 3
 |bind {op:Int} {x:List UInt8} {ty:Int}:op=21∨op=22→Nm x→ty=1∨ty=2∨ty=3→Shp Nm Nu op x [] ty 0 0 2
 |look {x y:List UInt8}:Nm x→Nm y→Shp Nm Nu 20 x y 0 0 0 3
mutual
def wfE (Nm:List UInt8→Prop) (Nu:Int→Int→Prop):Ex→Prop
 |.mk op x y ty p q xs _=>Shp Nm Nu op x y ty p q xs.length∧wfL Nm Nu xs
def wfL (Nm:List UInt8→Prop) (Nu:Int→Int→Prop):List Ex→Prop
 |[]=>True
 |x::xs=>wfE Nm Nu x∧wfL Nm Nu xs
end
section
variable {Nm:List UInt8→Prop} {Nu:Int→Int→Prop}
theorem dG (op:Int) (a b:List UInt8) (t p q:Int) (xs:List Ex) (i:Nat):wfE Nm Nu (.mk op a b t p q xs i)↔Shp Nm Nu op a b t p q xs.length∧wfL Nm Nu xs:=by rw[wfE]
theorem dV:wfL Nm Nu []:=by rw[wfL];trivial
theorem dh (x:Ex) (xs:List Ex):wfL Nm Nu (x::xs)↔wfE Nm Nu x∧wfL Nm Nu xs:=by rw[wfL]
theorem lK:∀ (xs:List Ex) (x:Ex),wfL Nm Nu xs→wfE Nm Nu x→wfL Nm Nu (xs++[x])
 |[],x,_,h=>by rw[List.nil_append,dh];exact⟨h,dV⟩
 |y::xs,x,h,k=>by
  rw[dh] at h
  rw[List.cons_append,dh]
  exact⟨h.1,lK xs x h.2 k⟩
theorem mO:∀ (xs:List Ex),wfL Nm Nu xs→∀ k,k<xs.length→wfE Nm Nu (xs.getD k ed)
 |[],_,k,h=>by simp at h
 |x::xs,hw,0,_=>by rw[dh] at hw;rw[List.getD_cons_zero];exact hw.1
 |x::xs,hw,k+1,h=>by rw[dh] at hw;rw[List.getD_cons_succ];exact mO xs hw.2 k (by simpa using h)
theorem wf1 {a:Ex} (h:wfE Nm Nu a):wfL Nm Nu [a]:=by rw[dh];exact⟨h,dV⟩
theorem wf2 {a b:Ex} (h:wfE Nm Nu a) (k:wfE Nm Nu b):wfL Nm Nu [a,b]:=by rw[dh];exact⟨h,wf1 k⟩
theorem wf3 {a b c:Ex} (h:wfE Nm Nu a) (k:wfE Nm Nu b) (l:wfE Nm Nu c):wfL Nm Nu [a,b,c]:=by rw[dh];exact⟨h,wf2 k l⟩
theorem gI {op:Int} {a b:Ex} {m:Mk} (ho:op=18∨op=12∨op=13∨op=8∨op=9∨op=10∨op=11) (h:wfE Nm Nu a) (k:wfE Nm Nu b):wfE Nm Nu (two op a b m):=by
 unfold Proofs.YtimoappbefindaaGreat.two
 rw[dG]
 exact⟨.two ho,wf2 h k⟩
def Rs.Al {α:Type} (Q:α→Prop) (r:Rs α):Prop:=∀ a j,r=.ok a j→Q a
theorem Rs.Al.ok {α:Type} {Q:α→Prop} {a:α} {j:Nat} (h:Q a):(Rs.ok a j).Al Q:=by intro b i e;cases e;exact h
theorem Rs.Al.bad {α:Type} {Q:α→Prop} {y:Int} {j:Nat}:(Rs.bad (α:=α) y j).Al Q:=by intro b i e;cases e
theorem Rs.Al.out {α:Type} {Q:α→Prop}:(Rs.out (α:=α)).Al Q:=by intro b i e;cases e
theorem Rs.Al.ite {α:Type} {Q:α→Prop} {p:Prop} [Decidable p] {x y:Rs α} (h1:p→x.Al Q) (h2:¬ p→y.Al Q):(if p then x else y).Al Q:=by
 by_cases h:p
 ·rw[if_pos h];exact h1 h
 ·rw[if_neg h];exact h2 h
theorem Rs.Al.bnd {α β:Type} {Q:β→Prop} {S:α→Prop} {r:Rs α} {g:α→Nat→Rs β} (hr:r.Al S) (h:∀ a j,S a→(g a j).Al Q):(r.bind g).Al Q:=by
 intro b i e
 obtain⟨a,j,e1,e2⟩:=ak.1 e
 exact h a j (hr a j e1) b i e2
variable (M:Nat→Mk) (L:Lm)
theorem bS {α:Type} (r:Rs α):r.Al fun _=>True:=fun _ _ _=>trivial
theorem jg (hN:∀ k,(M k).kind=0→Nm (M k).text) (k:Nat):(aJ M k).Al fun x=>Nm x.text:=by
 unfold aJ
 exact Rs.Al.ite (fun h=>Rs.Al.ok (hN k h)) fun _=>Rs.Al.bad
theorem jY (hN:∀ k,(M k).kind=0→Nm (M k).text) (n:Nat) (m:Int) (k:Nat):(au M n m k).Al fun x=>Nm x.text:=by
 unfold au
 exact Rs.Al.ite (fun _=>Rs.Al.bad) fun _=>jg M hN k
theorem jk (k:Nat):(aK M k).Al fun t=>t=1∨t=2∨t=3:=by
 unfold aK
 exact Rs.Al.ite (fun _=>Rs.Al.ok (by simp)) fun _=>Rs.Al.ite (fun _=>Rs.Al.ok (by simp)) fun _=>Rs.Al.ite (fun _=>Rs.Al.ok (by simp)) fun _=>Rs.Al.bad
theorem wordOp_in5 (s:List UInt8):aU s=0∨aU s=2∨aU s=3∨aU s=4∨aU s=5∨aU s=14∨aU s=15∨aU s=16∨aU s=17:=by
 unfold aU
 repeat' split
 all_goals simp
variable (hN:∀ k,(M k).kind=0→Nm (M k).text) (hU:∀ k,(M k).kind=2→Nu (M k).p (M k).q)
structure AllWf (Nm:List UInt8→Prop) (Nu:Int→Int→Prop) (M:Nat→Mk) (L:Lm) (f:Nat):Prop where
 exprP:∀ d k,(Proofs.YtimoappbefindaaGreat.exprP M L f d k).Al (wfE Nm Nu)
 bindP:∀ op d k,op=21∨op=22→(Proofs.YtimoappbefindaaGreat.bindP M L f op d k).Al (wfE Nm Nu)
 ifP:∀ d k,(Proofs.YtimoappbefindaaGreat.ifP M L f d k).Al (wfE Nm Nu)
 caseP:∀ d k,(Proofs.YtimoappbefindaaGreat.caseP M L f d k).Al (wfE Nm Nu)
 consP:∀ d k,(Proofs.YtimoappbefindaaGreat.consP M L f d k).Al (wfE Nm Nu)
 compP:∀ d k,(Proofs.YtimoappbefindaaGreat.compP M L f d k).Al (wfE Nm Nu)
 sumP:∀ d k,(Proofs.YtimoappbefindaaGreat.sumP M L f d k).Al (wfE Nm Nu)
 sumL:∀ d a k,wfE Nm Nu a→(Proofs.YtimoappbefindaaGreat.sumL M L f d a k).Al (wfE Nm Nu)
 termP:∀ d k,(Proofs.YtimoappbefindaaGreat.termP M L f d k).Al (wfE Nm Nu)
 termL:∀ d a k,wfE Nm Nu a→(Proofs.YtimoappbefindaaGreat.termL M L f d a k).Al (wfE Nm Nu)
 unitP:∀ d k,(Proofs.YtimoappbefindaaGreat.unitP M L f d k).Al (wfE Nm Nu)
 namedP:∀ d k,(M k).kind=0→(Proofs.YtimoappbefindaaGreat.namedP M L f d k).Al (wfE Nm Nu)
 wordedP:∀ d k,(Proofs.YtimoappbefindaaGreat.wordedP M L f d k).Al (wfE Nm Nu)
 brackP:∀ d k,(Proofs.YtimoappbefindaaGreat.brackP M L f d k).Al (wfE Nm Nu)
 argsP:∀ d k,(Proofs.YtimoappbefindaaGreat.argsP M L f d k).Al (wfL Nm Nu)
 argsL:∀ d acc k,wfL Nm Nu acc→(Proofs.YtimoappbefindaaGreat.argsL M L f d acc k).Al (wfL Nm Nu)
include hN hU in
theorem allWf:∀ f,AllWf Nm Nu M L f:=by
 intro f
 induction f with
 |zero=>
  constructor
  ·intro d k;rw[Proofs.YtimoappbefindaaGreat.exprP];exact Rs.Al.out
  ·intro op d k _;rw[Proofs.YtimoappbefindaaGreat.bindP];exact Rs.Al.out
  ·intro d k;rw[Proofs.YtimoappbefindaaGreat.ifP];exact Rs.Al.out
  ·intro d k;rw[Proofs.YtimoappbefindaaGreat.caseP];exact Rs.Al.out
  ·intro d k;rw[Proofs.YtimoappbefindaaGreat.consP];exact Rs.Al.out
  ·intro d k;rw[Proofs.YtimoappbefindaaGreat.compP];exact Rs.Al.out
  ·intro d k;rw[Proofs.YtimoappbefindaaGreat.sumP];exact Rs.Al.out
  ·intro d a k _;rw[Proofs.YtimoappbefindaaGreat.sumL];exact Rs.Al.out
  ·intro d k;rw[Proofs.YtimoappbefindaaGreat.termP];exact Rs.Al.out
  ·intro d a k _;rw[Proofs.YtimoappbefindaaGreat.termL];exact Rs.Al.out
  ·intro d k;rw[Proofs.YtimoappbefindaaGreat.unitP];exact Rs.Al.out
  ·intro d k _;rw[Proofs.YtimoappbefindaaGreat.namedP];exact Rs.Al.out
  ·intro d k;rw[Proofs.YtimoappbefindaaGreat.wordedP];exact Rs.Al.out
  ·intro d k;rw[Proofs.YtimoappbefindaaGreat.brackP];exact Rs.Al.out
  ·intro d k;rw[Proofs.YtimoappbefindaaGreat.argsP];exact Rs.Al.out
  ·intro d acc k _;rw[Proofs.YtimoappbefindaaGreat.argsL];exact Rs.Al.out
 |succ f ih=>
  constructor
  ·intro d k;rw[Proofs.YtimoappbefindaaGreat.exprP]
   exact Rs.Al.ite (fun _=>ih.bindP _ _ _ (.inl rfl)) fun _=>Rs.Al.ite (fun _=>ih.bindP _ _ _ (.inr rfl)) fun _=>Rs.Al.ite (fun _=>ih.ifP _ _) fun _=>Rs.Al.ite (fun _=>ih.caseP _ _) fun _=>ih.consP _ _
  ·intro op d k ho;rw[Proofs.YtimoappbefindaaGreat.bindP]
   refine Rs.Al.ite (fun _=>Rs.Al.bad) fun _=>Rs.Al.bnd (jg M hN _) fun x k1 h1=>Rs.Al.bnd (jk M _) fun t k2 h2=>Rs.Al.bnd (bS _) fun _ k3 _=>Rs.Al.bnd (ih.exprP _ _) fun a k4 h4=>Rs.Al.bnd (bS _) fun _ k5 _=>Rs.Al.bnd (ih.exprP _ _) fun b k6 h6=>Rs.Al.ok ?_
   rw[dG];exact⟨.bind ho h1 h2,wf2 h4 h6⟩
  ·intro d k;rw[Proofs.YtimoappbefindaaGreat.ifP]
   refine Rs.Al.bnd (ih.exprP _ _) fun a k1 h1=>Rs.Al.bnd (bS _) fun _ k2 _=>Rs.Al.bnd (ih.exprP _ _) fun b k3 h3=>Rs.Al.bnd (bS _) fun _ k4 _=>Rs.Al.bnd (ih.exprP _ _) fun c k5 h5=>Rs.Al.ok ?_
   rw[dG];exact⟨.cond,wf3 h1 h3 h5⟩
  ·intro d k;rw[Proofs.YtimoappbefindaaGreat.caseP]
   refine Rs.Al.ite (fun _=>Rs.Al.bad) fun _=>Rs.Al.bnd (ih.exprP _ _) fun a k1 h1=>Rs.Al.bnd (bS _) fun _ k2 _=>Rs.Al.bnd (bS _) fun _ k3 _=>Rs.Al.bnd (bS _) fun _ k4 _=>Rs.Al.bnd (ih.exprP _ _) fun b k5 h5=>?_
   refine Rs.Al.bnd (bS _) fun _ k6 _=>Rs.Al.bnd (jg M hN _) fun x k7 h7=>Rs.Al.bnd (bS _) fun _ k8 _=>Rs.Al.bnd (jg M hN _) fun y k9 h9=>Rs.Al.bnd (bS _) fun _ k10 _=>Rs.Al.bnd (ih.exprP _ _) fun c k11 h11=>Rs.Al.ok ?_
   rw[dG];exact⟨.look h7 h9,wf3 h1 h5 h11⟩
  ·intro d k;rw[Proofs.YtimoappbefindaaGreat.consP]
   exact Rs.Al.bnd (ih.compP _ _) fun a k1 h1=>Rs.Al.ite (fun _=>Rs.Al.bnd (ih.consP _ _) fun b k2 h2=>Rs.Al.ok (gI (by simp) h1 h2)) fun _=>Rs.Al.ok h1
  ·intro d k;rw[Proofs.YtimoappbefindaaGreat.compP]
   exact Rs.Al.bnd (ih.sumP _ _) fun a k1 h1=>Rs.Al.ite (fun _=>Rs.Al.bnd (ih.sumP _ _) fun b k2 h2=>Rs.Al.ok (gI (by simp) h1 h2)) fun _=>Rs.Al.ite (fun _=>Rs.Al.bnd (ih.sumP _ _) fun b k2 h2=>Rs.Al.ok (gI (by simp) h1 h2)) fun _=>Rs.Al.ok h1
  ·intro d k;rw[Proofs.YtimoappbefindaaGreat.sumP]
   exact Rs.Al.bnd (ih.termP _ _) fun a k1 h1=>ih.sumL _ _ _ h1
  ·intro d a k h;rw[Proofs.YtimoappbefindaaGreat.sumL]
   exact Rs.Al.ite (fun _=>Rs.Al.bnd (ih.termP _ _) fun b k1 h1=>ih.sumL _ _ _ (gI (by simp) h h1)) fun _=>Rs.Al.ite (fun _=>Rs.Al.bnd (ih.termP _ _) fun b k1 h1=>ih.sumL _ _ _ (gI (by simp) h h1)) fun _=>Rs.Al.ok h
  ·intro d k;rw[Proofs.YtimoappbefindaaGreat.termP]
   exact Rs.Al.bnd (ih.unitP _ _) fun a k1 h1=>ih.termL _ _ _ h1
  ·intro d a k h;rw[Proofs.YtimoappbefindaaGreat.termL]
   exact Rs.Al.ite (fun _=>Rs.Al.bnd (ih.unitP _ _) fun b k1 h1=>ih.termL _ _ _ (gI (by simp) h h1)) fun _=>Rs.Al.ite (fun _=>Rs.Al.bnd (ih.unitP _ _) fun b k1 h1=>ih.termL _ _ _ (gI (by simp) h h1)) fun _=>Rs.Al.ok h
  ·intro d k;rw[Proofs.YtimoappbefindaaGreat.unitP]
   refine Rs.Al.ite (fun h=>Rs.Al.ok ?_) fun _=>Rs.Al.ite (fun h=>ih.namedP _ _ h) fun _=>Rs.Al.ite (fun _=>ih.wordedP _ _) fun _=>ih.brackP _ _
   rw[dG];exact⟨.num (hU _ h),dV⟩
  ·intro d k h0;rw[Proofs.YtimoappbefindaaGreat.namedP]
   refine Rs.Al.ite (fun _=>Rs.Al.bnd (ih.argsP _ _) fun l k1 h1=>Rs.Al.ok ?_) fun _=>Rs.Al.ok ?_
   ·rw[dG];exact⟨.call (hN k h0),h1⟩
   ·rw[dG];exact⟨.var (hN k h0),dV⟩
  ·intro d k;rw[Proofs.YtimoappbefindaaGreat.wordedP]
   have hw:=wordOp_in5 (M k).text
   refine Rs.Al.ite (fun _=>Rs.Al.bad) fun n0=>Rs.Al.ite (fun h5=>Rs.Al.bnd (jk M _) fun t k1 h1=>Rs.Al.ok ?_) fun n5=>Rs.Al.ite (fun h14=>Rs.Al.bnd (ih.brackP _ _) fun e k1 h1=>Rs.Al.ok ?_) fun n14=>Rs.Al.ok ?_
   ·rw[dG];exact⟨.fail h1,dV⟩
   ·rw[dG];exact⟨.one (by omega),wf1 h1⟩
   ·rw[dG];exact⟨.word (by omega),dV⟩
  ·intro d k;rw[Proofs.YtimoappbefindaaGreat.brackP]
   exact Rs.Al.bnd (bS _) fun _ k1 _=>Rs.Al.bnd (ih.exprP _ _) fun e k2 h2=>Rs.Al.bnd (bS _) fun _ k3 _=>Rs.Al.ok h2
  ·intro d k;rw[Proofs.YtimoappbefindaaGreat.argsP]
   exact Rs.Al.ite (fun _=>Rs.Al.ok dV) fun _=>Rs.Al.bnd (ih.exprP _ _) fun a k1 h1=>ih.argsL _ _ _ (wf1 h1)
  ·intro d acc k h;rw[Proofs.YtimoappbefindaaGreat.argsL]
   exact Rs.Al.ite (fun _=>Rs.Al.bnd (ih.exprP _ _) fun a k1 h1=>ih.argsL _ _ _ (lK _ _ h h1)) fun _=>Rs.Al.bnd (bS _) fun _ k1 _=>Rs.Al.ok h
structure WfF (Nm:List UInt8→Prop) (Nu:Int→Int→Prop) (g:Fn1):Prop where
 name:Nm g.name
 ty:g.ty=1∨g.ty=2∨g.ty=3
 pms:∀ x∈g.pms,Nm x.name∧(x.ty=1∨x.ty=2∨x.ty=3)
 body:wfE Nm Nu g.body
include hN in
theorem lW (num k:Nat):(bg M L num k).Al fun x=>Nm x.name∧(x.ty=1∨x.ty=2∨x.ty=3):=by
 unfold bg
 exact Rs.Al.bnd (jY M hN _ _ _) fun x k1 h1=>Rs.Al.bnd (jk M _) fun t k2 h2=>Rs.Al.ok ⟨h1,h2⟩
include hN in
theorem al_paramsL:∀ f acc k,(∀ x∈acc,Nm x.name∧(x.ty=1∨x.ty=2∨x.ty=3))→(aS M L f acc k).Al fun ps=>∀ x∈ps,Nm x.name∧(x.ty=1∨x.ty=2∨x.ty=3):=by
 intro f
 induction f with
 |zero=>intro acc k _;rw[aS];exact Rs.Al.out
 |succ f ih=>
  intro acc k h
  rw[aS]
  refine Rs.Al.ite (fun _=>Rs.Al.bnd (lW M L hN _ _) fun a k1 h1=>ih _ _ fun x hx=>?_) fun _=>Rs.Al.bnd (bS _) fun _ k1 _=>Rs.Al.ok h
  rcases List.mem_append.1 hx with hx|hx
  ·exact h x hx
  ·obtain rfl:=List.mem_singleton.1 hx
   exact h1
include hN in
theorem al_params (f k:Nat):(aV M L f k).Al fun ps=>∀ x∈ps,Nm x.name∧(x.ty=1∨x.ty=2∨x.ty=3):=by
 unfold aV
 refine Rs.Al.bnd (bS _) fun _ k1 _=>Rs.Al.ite (fun _=>Rs.Al.ok fun x hx=>by cases hx) fun _=>Rs.Al.bnd (lW M L hN _ _) fun a k2 h2=>al_paramsL M L hN _ _ _ fun x hx=>?_
 obtain rfl:=List.mem_singleton.1 hx
 exact h2
include hN hU in
theorem al_def (f num k:Nat):(defP M L f num k).Al (WfF Nm Nu):=by
 unfold defP
 exact Rs.Al.bnd (jY M hN _ _ _) fun x k1 h1=>Rs.Al.bnd (al_params M L hN _ _) fun ps k2 h2=>Rs.Al.bnd (bS _) fun _ k3 _=>Rs.Al.bnd (jk M _) fun t k4 h4=>Rs.Al.bnd (bS _) fun _ k5 _=>
  Rs.Al.bnd ((allWf M L hN hU f).exprP _ _) fun b k6 h6=>Rs.Al.bnd (bS _) fun _ k7 _=>Rs.Al.ok ⟨h1,h4,h2,h6⟩
include hN hU in
theorem al_prog:∀ f acc k,(∀ g∈acc,WfF Nm Nu g)→(aQ M L f acc k).Al fun gs=>∀ g∈gs,WfF Nm Nu g:=by
 intro f
 induction f with
 |zero=>intro acc k _;rw[aQ];exact Rs.Al.out
 |succ f ih=>
  intro acc k h
  have hs:∀ g,WfF Nm Nu g→∀ x∈acc++[g],WfF Nm Nu x:=fun g hg x hx=>by
   rcases List.mem_append.1 hx with hx|hx
   ·exact h x hx
   ·obtain rfl:=List.mem_singleton.1 hx
    exact hg
  rw[aQ]
  exact Rs.Al.bnd (al_def M L hN hU _ _ _) fun g k1 h1=>Rs.Al.ite (fun _=>Rs.Al.ok (hs g h1)) fun _=>ih _ _ (hs g h1)
end
set_option maxHeartbeats 2000000
def Rs.Le {α:Type} (r r':Rs α):Prop:=r=.out∨r=r'
theorem Rs.Le.refl {α:Type} (r:Rs α):r.Le r:=.inr rfl
theorem Rs.Le.out {α:Type} (r:Rs α):(Rs.out (α:=α)).Le r:=.inl rfl
theorem Rs.Le.trans {α:Type} {r s t:Rs α} (h:r.Le s) (k:s.Le t):r.Le t:=by
 rcases h with h|h
 ·exact .inl h
 ·rw[h];exact k
section
variable (M:Nat→Mk) (L:Lm)
def Ev (P:Nat→Prop):Prop:=∃ f0,∀ f,f0≤f→P f
theorem Ev.all {P:Nat→Prop} (h:∀ f,P f):Ev P:=⟨0,fun f _=>h f⟩
theorem Ev.imp {P Q:Nat→Prop} (h:Ev P) (k:∀ f,P f→Q f):Ev Q:=by
 obtain⟨f0,h0⟩:=h
 exact⟨f0,fun f hf=>k f (h0 f hf)⟩
theorem Ev.succ {P:Nat→Prop} (h:Ev fun f=>P (f+1)):Ev P:=by
 obtain⟨f0,h0⟩:=h
 refine⟨f0+1,fun f hf=>?_⟩
 have:P (f-1+1):=h0 (f-1) (by omega)
 rwa[show f-1+1=f by omega] at this
end
set_option maxHeartbeats 2000000
def tt (_ _:Nat):Prop:=True
def Ag (M:Nat→Mk):Nat→List Mk→Prop
 |_,[]=>True
 |k,t::T=>MR tt t (M k)∧Ag M (k+1) T
def g5:List (List UInt8):=[[40]]
def g4:List (List UInt8):=[42]::[47]::g5
def g3:List (List UInt8):=[43]::[45]::g4
def g2:List (List UInt8):=[61,61]::[60]::g3
def g1:List (List UInt8):=[58]::g2
def Fol (g:List (List UInt8)) (m:Mk):Prop:=∀ s∈g,m.text≠s
theorem Fol.tk {g:List (List UInt8)} {M:Nat→Mk} {k:Nat} (h:Fol g (M k)) {s:List UInt8} (hs:s∈g):tk M s k=false:=by
 unfold Proofs.YtimoappbefindaaGreat.tk
 have:=h s hs
 simpa using this
theorem Fol.sub {g h:List (List UInt8)} {m:Mk} (k:Fol g m) (hs:∀ s∈h,s∈g):Fol h m:=fun s e=>k s (hs s e)
theorem mr_tk {t:Mk} {M:Nat→Mk} {k:Nat} (h:MR tt t (M k)) (s:List UInt8):tk M s k=(t.text==s):=by unfold tk;rw[h.text]
def NoKw (M:Nat→Mk) (k:Nat):Prop:=tk M tLet k=false∧tk M aH k=false∧tk M tIf k=false∧tk M bZ k=false
section
variable (T:List Mk) (e:Ex)
def Good5:Prop:=∀ (M:Nat→Mk) (L:Lm) (d k:Nat),Ag M k T→(d:Int)+nE e≤L.n→Fol g5 (M (k+T.length))→∃ e',ExR tt e e'∧Ev fun f=>unitP M L f d k=.ok e' (k+T.length)
def qb:Prop:=∀ (M:Nat→Mk) (L:Lm) (d k:Nat),Ag M k T→(d:Int)+nE e≤L.n→Fol g5 (M (k+T.length)) →
 ∃ e',ExR tt e e'∧∀ r j,(Ev fun f=>termL M L f d e' (k+T.length)=.ok r j)→Ev fun f=>termP M L f d k=.ok r j
def qa:Prop:=∀ (M:Nat→Mk) (L:Lm) (d k:Nat),Ag M k T→(d:Int)+nE e≤L.n→Fol g4 (M (k+T.length))→∃ e',ExR tt e e'∧Ev fun f=>termP M L f d k=.ok e' (k+T.length)
def GoodS:Prop:=∀ (M:Nat→Mk) (L:Lm) (d k:Nat),Ag M k T→(d:Int)+nE e≤L.n→Fol g4 (M (k+T.length)) →
 ∃ e',ExR tt e e'∧∀ r j,(Ev fun f=>sumL M L f d e' (k+T.length)=.ok r j)→Ev fun f=>sumP M L f d k=.ok r j
def pY:Prop:=∀ (M:Nat→Mk) (L:Lm) (d k:Nat),Ag M k T→(d:Int)+nE e≤L.n→Fol g3 (M (k+T.length))→∃ e',ExR tt e e'∧Ev fun f=>sumP M L f d k=.ok e' (k+T.length)
def Good2:Prop:=∀ (M:Nat→Mk) (L:Lm) (d k:Nat),Ag M k T→(d:Int)+nE e≤L.n→Fol g2 (M (k+T.length))→∃ e',ExR tt e e'∧Ev fun f=>compP M L f d k=.ok e' (k+T.length)
def Good1:Prop:=∀ (M:Nat→Mk) (L:Lm) (d k:Nat),Ag M k T→(d:Int)+nE e≤L.n→Fol g1 (M (k+T.length))→NoKw M k∧∃ e',ExR tt e e'∧Ev fun f=>consP M L f d k=.ok e' (k+T.length)
def Good0:Prop:=∀ (M:Nat→Mk) (L:Lm) (d k:Nat),Ag M k T→(d:Int)+nE e≤L.n→Fol g1 (M (k+T.length))→∃ e',ExR tt e e'∧Ev fun f=>exprP M L f d k=.ok e' (k+T.length)
def Hdk:Prop:=∀ (M:Nat→Mk) (k:Nat),Ag M k T→NoKw M k
end
variable {T:List Mk} {e:Ex}
theorem goodT_4 (h:qb T e):qa T e:=by
 intro M L d k ha hn hf
 obtain⟨e',hr,he⟩:=h M L d k ha hn (hf.sub (by simp[g4,g5]))
 refine⟨e',hr,he _ _ (Ev.succ (Ev.all fun f=>?_))⟩
 rw[termL,hf.tk (s:=[42]) (by simp[g4]),hf.tk (s:=[47]) (by simp[g4])]
 rfl
theorem goodS_3 (h:GoodS T e):pY T e:=by
 intro M L d k ha hn hf
 obtain⟨e',hr,he⟩:=h M L d k ha hn (hf.sub (by simp[g3,g4,g5]))
 refine⟨e',hr,he _ _ (Ev.succ (Ev.all fun f=>?_))⟩
 rw[sumL,hf.tk (s:=[43]) (by simp[g3]),hf.tk (s:=[45]) (by simp[g3])]
 rfl
structure Lv (T:List Mk) (e:Ex) (l:Int):Prop where
 g5:5≤l→Good5 T e
 gT:4≤l→qb T e
 gS:3≤l→GoodS T e
 g2:2≤l→Good2 T e
 g1:1≤l→Good1 T e
 hd:1≤l→Hdk T
 g0:Good0 T e
theorem Lv.g4 {l:Int} (h:Lv T e l) (hl:4≤l):qa T e:=goodT_4 (h.gT hl)
theorem Lv.g3 {l:Int} (h:Lv T e l) (hl:3≤l):pY T e:=goodS_3 (h.gS hl)
set_option maxHeartbeats 2000000
set_option maxHeartbeats 2000000
def Fst (T:List Mk):Prop:=∃ t S,T=t::S∧t.text≠[41]
theorem Fst.tk {T:List Mk} (h:Fst T) {M:Nat→Mk} {k:Nat} (ha:Ag M k T):tk M [41] k=false∧T≠[]:=by
 obtain⟨t,R,rfl,h⟩:=h
 refine⟨?_,by simp⟩
 rw[mr_tk ha.1]
 simpa using h
def Odd (x:List UInt8):Prop:=x≠tLet∧x≠aH∧x≠tIf∧x≠bZ∧x≠[41]
section
variable {Nm:List UInt8→Prop} {Nu:Int→Int→Prop} (hNm:∀ x,Nm x→Odd x) (hNu:∀ p q,Nu p q→Odd (txt p q))
end
set_option maxHeartbeats 2000000
section
variable {Nm:List UInt8→Prop} {Nu:Int→Int→Prop} (hNm:∀ x,Nm x→Odd x) (hNu:∀ p q,Nu p q→Odd (txt p q))
end
set_option maxHeartbeats 2000000
set_option maxRecDepth 100000
section
variable (N:Num)
variable {N}
end
set_option maxHeartbeats 2000000
variable {N:Num}
section
variable {A B C S:List UInt8} {A' B' C':List Mk} {s:Mk}
end
set_option maxHeartbeats 2000000
section
variable {N:Num} (hN:∀ l,N.ok l=true→txt (N.p l) (N.q l)=l)
end
/-! ## A text tells no places -/
set_option maxHeartbeats 2000000
section
variable {K:Nat}
end
section
variable {N:Num}
theorem cutF_len:∀ f l k ms,cutF N f l k=.ok ms→∀ m∈ms,m.text.length≤l.length:=by
 intro f
 induction f with
 |zero=>intro l k ms h;cases h
 |succ f ih=>
  intro l k ms h
  rw[cutF] at h
  cases hs:stp N l k with
  |stop=>
   rw[hs] at h
   cases h
   intro m hm
   obtain rfl:=List.mem_singleton.1 hm
   simp[endM]
  |bad=>rw[hs] at h;cases h
  |skip n=>
   rw[hs] at h
   intro m hm
   have:=ih _ _ _ h m hm
   rw[List.length_drop] at this
   omega
  |mark m0=>
   rw[hs] at h
   dsimp only at h
   cases hc:cutF N f (l.drop m0.text.length) (k+m0.text.length) with
   |bad j=>rw[hc] at h;cases h
   |ok ms'=>
    rw[hc] at h
    cases h
    intro m hm
    rcases List.mem_cons.1 hm with rfl|hm
    ·cases l with
     |nil=>cases hs
     |cons c r=>
      unfold stp at hs
      dsimp only at hs
      split at hs
      ·cases hs
      ·split at hs
       ·cases hs
       ·cases hm:oneM N (c::r) k with
        |none=>rw[hm] at hs;cases hs
        |some m'=>
         rw[hm] at hs
         cases hs
         exact (gH N hm).2.1
    ·have:=ih _ _ _ hc m hm
     rw[List.length_drop] at this
     omega
theorem mf_len {l:List UInt8} {k:Nat} {ms:List Mk} (h:cut N l k=.ok ms) (t:Nat):(mf ms t).text.length≤l.length:=by
 rcases Nat.lt_or_ge t ms.length with hl|hl
 ·exact cutF_len _ _ _ _ h _ (List.mem_of_getElem? (oP hl))
 ·have e:mf ms t=⟨4,[],0,0,0⟩:=by
   unfold mf
   rw[List.getD_eq_getElem?_getD,List.getElem?_eq_none hl]
   rfl
  rw[e]
  simp
end
end Go.Proofs.YtimoappbefindaaGreat
