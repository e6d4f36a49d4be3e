/-
  2 texts in one: what each proves stands at its head.
-/
import Derived.Test.YtimoappbefindaaGreatUW
import Derived.Test.YtimoappbefindaaGreatUr
namespace Go.Proofs.YtimoappbefindaaGreat
set_option maxHeartbeats 2000000
mutual
def nmE:Ex→List Nat
 |.mk op _ _ _ _ _ xs i=>(if op=6∨op=7 then [i] else [])++nmL xs
def nmL:List Ex→List Nat
 |[]=>[]
 |x::xs=>nmE x++nmL xs
end
theorem om (op:Int) (a b:List UInt8) (t p q:Int) (xs:List Ex) (i:Nat):nmE (.mk op a b t p q xs i)=(if op=6∨op=7 then [i] else [])++nmL xs:=by rw[nmE]
theorem eF:nmL []=[]:=by rw[nmL]
theorem dL (x:Ex) (xs:List Ex):nmL (x::xs)=nmE x++nmL xs:=by rw[nmL]
theorem pF:∀ (xs:List Ex) (x:Ex),nmL (xs++[x])=nmL xs++nmE x
 |[],x=>by rw[List.nil_append,dL,eF,List.append_nil,List.nil_append]
 |y::xs,x=>by rw[List.cons_append,dL,pF xs x,dL,List.append_assoc]
def Pls (M:Nat→Mk) (l:List Nat) (a b:Nat):Prop:=a≤b∧∃ js:List Nat,l=js.map (fun k=>(M k).at_)∧js.Pairwise (·<·)∧∀ k∈js,a≤k∧k<b∧(M k).kind=0
section
variable {M:Nat→Mk}
theorem Pls.nil {a b:Nat} (h:a≤b):Pls M [] a b:=⟨h,[],rfl,.nil,fun _ h=>by cases h⟩
theorem Pls.mono {l:List Nat} {a b a' b':Nat} (h:Pls M l a b) (ha:a'≤a) (hb:b≤b'):Pls M l a' b':=by
 obtain⟨h0,js,e,h1,h2⟩:=h
 exact⟨by omega,js,e,h1,fun k hk=>⟨by have:=(h2 k hk).1;omega,by have:=(h2 k hk).2.1;omega,(h2 k hk).2.2⟩⟩
theorem Pls.app {l m:List Nat} {a b c d:Nat} (h:Pls M l a b) (k:Pls M m c d) (hb:b≤c):Pls M (l++m) a d:=by
 obtain⟨h0,js,e,h1,h2⟩:=h
 obtain⟨k0,ks,e',k1,k2⟩:=k
 refine⟨by omega,js++ks,by rw[e,e',List.map_append],List.pairwise_append.2 ⟨h1,k1,fun x hx y hy=>?_⟩,fun x hx=>?_⟩
 ·have:=(h2 x hx).2.1
  have:=(k2 y hy).1
  omega
 ·rcases List.mem_append.1 hx with hx|hx
  ·exact⟨(h2 x hx).1,by have:=(h2 x hx).2.1;omega,(h2 x hx).2.2⟩
  ·exact⟨by have:=(k2 x hx).1;omega,(k2 x hx).2⟩
theorem Pls.one {a b k:Nat} (ha:a≤k) (hb:k<b) (h0:(M k).kind=0):Pls M [(M k).at_] a b:=
 ⟨by omega,[k],rfl,List.pairwise_singleton _ _,fun x hx=>by obtain rfl:=List.mem_singleton.1 hx;exact⟨ha,hb,h0⟩⟩
def Rs.Ap {α:Type} (Q:α→Nat→Prop) (r:Rs α):Prop:=∀ a j,r=.ok a j→Q a j
theorem Rs.Ap.ok {α:Type} {Q:α→Nat→Prop} {a:α} {j:Nat} (h:Q a j):(Rs.ok a j).Ap Q:=by intro b i e;cases e;exact h
theorem Rs.Ap.bad {α:Type} {Q:α→Nat→Prop} {y:Int} {j:Nat}:(Rs.bad (α:=α) y j).Ap Q:=by intro b i e;cases e
theorem Rs.Ap.out {α:Type} {Q:α→Nat→Prop}:(Rs.out (α:=α)).Ap Q:=by intro b i e;cases e
theorem Rs.Ap.ite {α:Type} {Q:α→Nat→Prop} {p:Prop} [Decidable p] {x y:Rs α} (h1:p→x.Ap Q) (h2:¬ p→y.Ap Q):(if p then x else y).Ap Q:=by
 by_cases h:p
 ·rw[if_pos h];exact h1 h
 ·rw[if_neg h];exact h2 h
theorem Rs.Ap.bnd {α β:Type} {Q:β→Nat→Prop} {S:α→Nat→Prop} {r:Rs α} {g:α→Nat→Rs β} (hr:r.Ap S) (h:∀ a j,S a j→(g a j).Ap Q):(r.bind g).Ap Q:=by
 intro b i e
 obtain⟨a,j,e1,e2⟩:=au.1 e
 exact h a j (hr a j e1) b i e2
theorem Rs.Ap.mono {α:Type} {Q S:α→Nat→Prop} {r:Rs α} (hr:r.Ap S) (h:∀ a j,S a j→Q a j):r.Ap Q:=fun a j e=>h a j (hr a j e)
variable (M) (L:Lm)
theorem bz (s:List UInt8) (k:Nat):(aj M s k).Ap fun _ j=>j=k+1:=by
 unfold aj
 exact Rs.Ap.ite (fun _=>Rs.Ap.ok rfl) fun _=>Rs.Ap.bad
theorem jX (k:Nat):(aJ M k).Ap fun x j=>j=k+1∧x=M k∧(M k).kind=0:=by
 unfold aJ
 exact Rs.Ap.ite (fun h=>Rs.Ap.ok ⟨rfl,rfl,h⟩) fun _=>Rs.Ap.bad
theorem lm (n:Nat) (m:Int) (k:Nat):(ay M n m k).Ap fun x j=>j=k+1∧x=M k∧(M k).kind=0:=by
 unfold ay
 exact Rs.Ap.ite (fun _=>Rs.Ap.bad) fun _=>jX M k
theorem jW (k:Nat):(aK M k).Ap fun _ j=>j=k+1:=by
 unfold aK
 exact Rs.Ap.ite (fun _=>Rs.Ap.ok rfl) fun _=>Rs.Ap.ite (fun _=>Rs.Ap.ok rfl) fun _=>Rs.Ap.ite (fun _=>Rs.Ap.ok rfl) fun _=>Rs.Ap.bad
theorem pls1 {a b:Nat} {x:Ex} (h:Pls M (nmE x) a b):Pls M (nmL [x]) a b:=by rw[dL,eF,List.append_nil];exact h
theorem pls2 {a b c d:Nat} {x y:Ex} (h:Pls M (nmE x) a b) (k:Pls M (nmE y) c d) (hb:b≤c):Pls M (nmL [x,y]) a d:=by rw[dL];exact h.app (pls1 M k) hb
theorem pls3 {a b c d e f:Nat} {x y z:Ex} (h:Pls M (nmE x) a b) (k:Pls M (nmE y) c d) (l:Pls M (nmE z) e f) (hb:b≤c) (hd:d≤e):Pls M (nmL [x,y,z]) a f:=by rw[dL];exact h.app (pls2 M k l hd) hb
theorem ic {op:Int} (ho:¬ (op=6∨op=7)) {x y:List UInt8} {t p q:Int} {xs:List Ex} {i a b:Nat} (h:Pls M (nmL xs) a b):Pls M (nmE (.mk op x y t p q xs i)) a b:=by rw[om,if_neg ho,List.nil_append];exact h
theorem fC {op:Int} (ho:¬ (op=6∨op=7)) {x y:Ex} {m:Mk} {a b c d:Nat} (h:Pls M (nmE x) a b) (k:Pls M (nmE y) c d) (hb:b≤c):Pls M (nmE (two op x y m)) a d:=by
 unfold Proofs.YtimoappbefindaaGreat.two
 exact ic M ho (pls2 M h k hb)
structure AllPl (M:Nat→Mk) (L:Lm) (f:Nat):Prop where
 exprP:∀ d k,(Proofs.YtimoappbefindaaGreat.exprP M L f d k).Ap fun x j=>Pls M (nmE x) k j
 bindP:∀ op d k,op=21∨op=22→(Proofs.YtimoappbefindaaGreat.bindP M L f op d k).Ap fun x j=>Pls M (nmE x) k j
 ifP:∀ d k,(Proofs.YtimoappbefindaaGreat.ifP M L f d k).Ap fun x j=>Pls M (nmE x) k j
 caseP:∀ d k,(Proofs.YtimoappbefindaaGreat.caseP M L f d k).Ap fun x j=>Pls M (nmE x) k j
 consP:∀ d k,(Proofs.YtimoappbefindaaGreat.consP M L f d k).Ap fun x j=>Pls M (nmE x) k j
 compP:∀ d k,(Proofs.YtimoappbefindaaGreat.compP M L f d k).Ap fun x j=>Pls M (nmE x) k j
 sumP:∀ d k,(Proofs.YtimoappbefindaaGreat.sumP M L f d k).Ap fun x j=>Pls M (nmE x) k j
 sumL:∀ d a k i,Pls M (nmE a) i k→(Proofs.YtimoappbefindaaGreat.sumL M L f d a k).Ap fun x j=>Pls M (nmE x) i j
 termP:∀ d k,(Proofs.YtimoappbefindaaGreat.termP M L f d k).Ap fun x j=>Pls M (nmE x) k j
 termL:∀ d a k i,Pls M (nmE a) i k→(Proofs.YtimoappbefindaaGreat.termL M L f d a k).Ap fun x j=>Pls M (nmE x) i j
 unitP:∀ d k,(Proofs.YtimoappbefindaaGreat.unitP M L f d k).Ap fun x j=>Pls M (nmE x) k j
 namedP:∀ d k,(M k).kind=0→(Proofs.YtimoappbefindaaGreat.namedP M L f d k).Ap fun x j=>Pls M (nmE x) k j
 wordedP:∀ d k,(Proofs.YtimoappbefindaaGreat.wordedP M L f d k).Ap fun x j=>Pls M (nmE x) k j
 brackP:∀ d k,(Proofs.YtimoappbefindaaGreat.brackP M L f d k).Ap fun x j=>Pls M (nmE x) k j
 argsP:∀ d k,(Proofs.YtimoappbefindaaGreat.argsP M L f d k).Ap fun x j=>Pls M (nmL x) k j
 argsL:∀ d acc k i,Pls M (nmL acc) i k→(Proofs.YtimoappbefindaaGreat.argsL M L f d acc k).Ap fun x j=>Pls M (nmL x) i j
theorem allPl:∀ f,AllPl M L f:=by
 intro f
 induction f with
 |zero=>
  constructor
  ·intro d k;rw[Proofs.YtimoappbefindaaGreat.exprP];exact Rs.Ap.out
  ·intro op d k _;rw[Proofs.YtimoappbefindaaGreat.bindP];exact Rs.Ap.out
  ·intro d k;rw[Proofs.YtimoappbefindaaGreat.ifP];exact Rs.Ap.out
  ·intro d k;rw[Proofs.YtimoappbefindaaGreat.caseP];exact Rs.Ap.out
  ·intro d k;rw[Proofs.YtimoappbefindaaGreat.consP];exact Rs.Ap.out
  ·intro d k;rw[Proofs.YtimoappbefindaaGreat.compP];exact Rs.Ap.out
  ·intro d k;rw[Proofs.YtimoappbefindaaGreat.sumP];exact Rs.Ap.out
  ·intro d a k i _;rw[Proofs.YtimoappbefindaaGreat.sumL];exact Rs.Ap.out
  ·intro d k;rw[Proofs.YtimoappbefindaaGreat.termP];exact Rs.Ap.out
  ·intro d a k i _;rw[Proofs.YtimoappbefindaaGreat.termL];exact Rs.Ap.out
  ·intro d k;rw[Proofs.YtimoappbefindaaGreat.unitP];exact Rs.Ap.out
  ·intro d k _;rw[Proofs.YtimoappbefindaaGreat.namedP];exact Rs.Ap.out
  ·intro d k;rw[Proofs.YtimoappbefindaaGreat.wordedP];exact Rs.Ap.out
  ·intro d k;rw[Proofs.YtimoappbefindaaGreat.brackP];exact Rs.Ap.out
  ·intro d k;rw[Proofs.YtimoappbefindaaGreat.argsP];exact Rs.Ap.out
  ·intro d acc k i _;rw[Proofs.YtimoappbefindaaGreat.argsL];exact Rs.Ap.out
 |succ f ih=>
  constructor
  ·intro d k;rw[Proofs.YtimoappbefindaaGreat.exprP]
   exact Rs.Ap.ite (fun _=>ih.bindP _ _ _ (.inl rfl)) fun _=>Rs.Ap.ite (fun _=>ih.bindP _ _ _ (.inr rfl)) fun _=>Rs.Ap.ite (fun _=>ih.ifP _ _) fun _=>Rs.Ap.ite (fun _=>ih.caseP _ _) fun _=>ih.consP _ _
  ·intro op d k ho;rw[Proofs.YtimoappbefindaaGreat.bindP]
   refine Rs.Ap.ite (fun _=>Rs.Ap.bad) fun _=>Rs.Ap.bnd (jX M _) fun x k1 h1=>Rs.Ap.bnd (jW M _) fun t k2 h2=>Rs.Ap.bnd (bz M _ _) fun _ k3 h3=>Rs.Ap.bnd (ih.exprP _ _) fun a k4 h4=>Rs.Ap.bnd (bz M _ _) fun _ k5 h5=>Rs.Ap.bnd (ih.exprP _ _) fun b k6 h6=>Rs.Ap.ok ?_
   have:=h1.1
   exact ic M (by omega) ((pls2 M h4 h6 (by omega)).mono (by omega) (Nat.le_refl _))
  ·intro d k;rw[Proofs.YtimoappbefindaaGreat.ifP]
   refine Rs.Ap.bnd (ih.exprP _ _) fun a k1 h1=>Rs.Ap.bnd (bz M _ _) fun _ k2 h2=>Rs.Ap.bnd (ih.exprP _ _) fun b k3 h3=>Rs.Ap.bnd (bz M _ _) fun _ k4 h4=>Rs.Ap.bnd (ih.exprP _ _) fun c k5 h5=>Rs.Ap.ok ?_
   exact ic M (by decide) ((pls3 M h1 h3 h5 (by omega) (by omega)).mono (by omega) (Nat.le_refl _))
  ·intro d k;rw[Proofs.YtimoappbefindaaGreat.caseP]
   refine Rs.Ap.ite (fun _=>Rs.Ap.bad) fun _=>Rs.Ap.bnd (ih.exprP _ _) fun a k1 h1=>Rs.Ap.bnd (bz M _ _) fun _ k2 h2=>Rs.Ap.bnd (bz M _ _) fun _ k3 h3=>Rs.Ap.bnd (bz M _ _) fun _ k4 h4=>Rs.Ap.bnd (ih.exprP _ _) fun b k5 h5=>?_
   refine Rs.Ap.bnd (bz M _ _) fun _ k6 h6=>Rs.Ap.bnd (jX M _) fun x k7 h7=>Rs.Ap.bnd (bz M _ _) fun _ k8 h8=>Rs.Ap.bnd (jX M _) fun y k9 h9=>Rs.Ap.bnd (bz M _ _) fun _ k10 h10=>Rs.Ap.bnd (ih.exprP _ _) fun c k11 h11=>Rs.Ap.ok ?_
   have:=h7.1
   have:=h9.1
   exact ic M (by decide) ((pls3 M h1 h5 h11 (by omega) (by omega)).mono (by omega) (Nat.le_refl _))
  ·intro d k;rw[Proofs.YtimoappbefindaaGreat.consP]
   exact Rs.Ap.bnd (ih.compP _ _) fun a k1 h1=>Rs.Ap.ite (fun _=>Rs.Ap.bnd (ih.consP _ _) fun b k2 h2=>Rs.Ap.ok (fC M (by decide) h1 h2 (by omega))) fun _=>Rs.Ap.ok h1
  ·intro d k;rw[Proofs.YtimoappbefindaaGreat.compP]
   exact Rs.Ap.bnd (ih.sumP _ _) fun a k1 h1=>Rs.Ap.ite (fun _=>Rs.Ap.bnd (ih.sumP _ _) fun b k2 h2=>Rs.Ap.ok (fC M (by decide) h1 h2 (by omega))) fun _=>Rs.Ap.ite (fun _=>Rs.Ap.bnd (ih.sumP _ _) fun b k2 h2=>Rs.Ap.ok (fC M (by decide) h1 h2 (by omega))) fun _=>Rs.Ap.ok h1
  ·intro d k;rw[Proofs.YtimoappbefindaaGreat.sumP]
   exact Rs.Ap.bnd (ih.termP _ _) fun a k1 h1=>ih.sumL _ _ _ _ h1
  ·intro d a k i h;rw[Proofs.YtimoappbefindaaGreat.sumL]
   exact Rs.Ap.ite (fun _=>Rs.Ap.bnd (ih.termP _ _) fun b k1 h1=>ih.sumL _ _ _ _ (fC M (by decide) h h1 (by omega))) fun _=>Rs.Ap.ite (fun _=>Rs.Ap.bnd (ih.termP _ _) fun b k1 h1=>ih.sumL _ _ _ _ (fC M (by decide) h h1 (by omega))) fun _=>Rs.Ap.ok h
  ·intro d k;rw[Proofs.YtimoappbefindaaGreat.termP]
   exact Rs.Ap.bnd (ih.unitP _ _) fun a k1 h1=>ih.termL _ _ _ _ h1
  ·intro d a k i h;rw[Proofs.YtimoappbefindaaGreat.termL]
   exact Rs.Ap.ite (fun _=>Rs.Ap.bnd (ih.unitP _ _) fun b k1 h1=>ih.termL _ _ _ _ (fC M (by decide) h h1 (by omega))) fun _=>Rs.Ap.ite (fun _=>Rs.Ap.bnd (ih.unitP _ _) fun b k1 h1=>ih.termL _ _ _ _ (fC M (by decide) h h1 (by omega))) fun _=>Rs.Ap.ok h
  ·intro d k;rw[Proofs.YtimoappbefindaaGreat.unitP]
   refine Rs.Ap.ite (fun h=>Rs.Ap.ok ?_) fun _=>Rs.Ap.ite (fun h=>ih.namedP _ _ h) fun _=>Rs.Ap.ite (fun _=>ih.wordedP _ _) fun _=>ih.brackP _ _
   refine ic M (by decide) ?_
   rw[eF];exact Pls.nil (by omega)
  ·intro d k h0;rw[Proofs.YtimoappbefindaaGreat.namedP]
   refine Rs.Ap.ite (fun _=>Rs.Ap.bnd (ih.argsP _ _) fun l k1 h1=>Rs.Ap.ok ?_) fun _=>Rs.Ap.ok ?_
   ·rw[om,if_pos (.inr rfl)];exact (Pls.one (Nat.le_refl k) (Nat.lt_succ_self k) h0).app h1 (by omega)
   ·rw[om,if_pos (.inl rfl),eF];exact Pls.one (Nat.le_refl k) (Nat.lt_succ_self k) h0
  ·intro d k;rw[Proofs.YtimoappbefindaaGreat.wordedP]
   have hw:=jM (M k).text
   refine Rs.Ap.ite (fun _=>Rs.Ap.bad) fun n0=>Rs.Ap.ite (fun h5=>Rs.Ap.bnd (jW M _) fun t k1 h1=>Rs.Ap.ok ?_) fun n5=>Rs.Ap.ite (fun h14=>Rs.Ap.bnd (ih.brackP _ _) fun e k1 h1=>Rs.Ap.ok ?_) fun n14=>Rs.Ap.ok ?_
   ·refine ic M (by decide) ?_
    rw[eF];exact Pls.nil (by omega)
   ·exact ic M (by omega) ((pls1 M h1).mono (by omega) (Nat.le_refl _))
   ·refine ic M (by omega) ?_
    rw[eF];exact Pls.nil (by omega)
  ·intro d k;rw[Proofs.YtimoappbefindaaGreat.brackP]
   exact Rs.Ap.bnd (bz M _ _) fun _ k1 h1=>Rs.Ap.bnd (ih.exprP _ _) fun e k2 h2=>Rs.Ap.bnd (bz M _ _) fun _ k3 h3=>Rs.Ap.ok (h2.mono (by omega) (by omega))
  ·intro d k;rw[Proofs.YtimoappbefindaaGreat.argsP]
   exact Rs.Ap.ite (fun _=>Rs.Ap.ok (by rw[eF];exact Pls.nil (by omega))) fun _=>Rs.Ap.bnd (ih.exprP _ _) fun a k1 h1=>ih.argsL _ _ _ _ (pls1 M h1)
  ·intro d acc k i h;rw[Proofs.YtimoappbefindaaGreat.argsL]
   exact Rs.Ap.ite (fun _=>Rs.Ap.bnd (ih.exprP _ _) fun a k1 h1=>ih.argsL _ _ _ _ (by rw[pF];exact h.app h1 (by omega))) fun _=>Rs.Ap.bnd (bz M _ _) fun _ k1 h1=>Rs.Ap.ok (h.mono (Nat.le_refl _) (by omega))
def nmF (g:Fn1):List Nat:=g.pos::(g.pms.map (·.pos)++nmE g.body)
theorem oh (num k:Nat):(aZ M L num k).Ap fun x j=>j=k+2∧x.pos=(M k).at_∧(M k).kind=0:=by
 unfold aZ
 exact Rs.Ap.bnd (lm M _ _ _) fun x k1 h1=>Rs.Ap.bnd (jW M _) fun t k2 h2=>Rs.Ap.ok ⟨by have:=h1.1;omega,by show x.at_=_;rw[h1.2.1],h1.2.2⟩
theorem ap_paramsL:∀ f acc k i,Pls M (acc.map (·.pos)) i k→(aP M L f acc k).Ap fun ps j=>Pls M (ps.map (·.pos)) i j:=by
 intro f
 induction f with
 |zero=>intro acc k i _;rw[aP];exact Rs.Ap.out
 |succ f ih=>
  intro acc k i h
  rw[aP]
  refine Rs.Ap.ite (fun _=>Rs.Ap.bnd (oh M L _ _) fun a k1 h1=>ih _ _ _ ?_) fun _=>Rs.Ap.bnd (bz M _ _) fun _ k1 h1=>Rs.Ap.ok (h.mono (Nat.le_refl _) (by omega))
  rw[List.map_append,List.map_singleton,h1.2.1]
  have:=h1.1
  exact h.app ((Pls.one (Nat.le_refl (k+1)) (Nat.lt_succ_self (k+1)) h1.2.2).mono (Nat.le_refl _) (by omega)) (by omega)
theorem ap_params (f k:Nat):(aV M L f k).Ap fun ps j=>Pls M (ps.map (·.pos)) k j:=by
 unfold aV
 refine Rs.Ap.bnd (bz M _ _) fun _ k1 h1=>Rs.Ap.ite (fun _=>Rs.Ap.ok (Pls.nil (by omega))) fun _=>Rs.Ap.bnd (oh M L _ _) fun a k2 h2=>ap_paramsL M L _ _ _ _ ?_
 rw[List.map_singleton,h2.2.1]
 have:=h2.1
 exact Pls.one (by omega) (by omega) h2.2.2
theorem ap_def (f num k:Nat):(defP M L f num k).Ap fun g j=>Pls M (nmF g) k j:=by
 unfold defP
 refine Rs.Ap.bnd (lm M _ _ _) fun x k1 h1=>Rs.Ap.bnd (ap_params M L _ _) fun ps k2 h2=>Rs.Ap.bnd (bz M _ _) fun _ k3 h3=>Rs.Ap.bnd (jW M _) fun t k4 h4=>Rs.Ap.bnd (bz M _ _) fun _ k5 h5=>
  Rs.Ap.bnd ((allPl M L f).exprP _ _) fun b k6 h6=>Rs.Ap.bnd (bz M _ _) fun _ k7 h7=>Rs.Ap.ok ?_
 have e:=h1.1
 show Pls M (x.at_::(ps.map (·.pos)++nmE b)) k k7
 rw[h1.2.1]
 exact ((Pls.one (Nat.le_refl k) (Nat.lt_succ_self k) h1.2.2).app (h2.app h6 (by omega)) (by omega)).mono (Nat.le_refl _) (by omega)
theorem ap_prog:∀ f acc k i,Pls M (acc.flatMap nmF) i k→(aS M L f acc k).Ap fun gs j=>Pls M (gs.flatMap nmF) i j:=by
 intro f
 induction f with
 |zero=>intro acc k i _;rw[aS];exact Rs.Ap.out
 |succ f ih=>
  intro acc k i h
  rw[aS]
  have hs:∀ g j,Pls M (nmF g) k j→Pls M ((acc++[g]).flatMap nmF) i j:=fun g j hg=>by
   rw[List.flatMap_append,List.flatMap_singleton]
   exact h.app hg (Nat.le_refl _)
  exact Rs.Ap.bnd (ap_def M L _ _ _) fun g k1 h1=>Rs.Ap.ite (fun _=>Rs.Ap.ok (hs g k1 h1)) fun _=>ih _ _ _ (hs g k1 h1)
end
theorem places_apart {k e:Nat} {ms:List Mk} (hr:Row1 k e ms) {L:Lm} {f j:Nat} {gs:List Fn1} (h:aS (mf ms) L f [] 0=.ok gs j):(gs.flatMap nmF).Nodup:=by
 obtain⟨_,js,e1,h1,h2⟩:=ap_prog (mf ms) L f [] 0 0 (Pls.nil (Nat.le_refl _)) gs j h
 rw[e1]
 have hl:∀ x∈js,x<ms.length:=fun x hx=>by
  have a:=(h2 x hx).2.2
  by_cases hc:x<ms.length
  ·exact hc
  ·have:mf ms x=⟨4,[],0,0,0⟩:=by
    unfold mf
    rw[List.getD_eq_getElem?_getD,List.getElem?_eq_none (by omega)]
    rfl
   rw[this] at a
   exact absurd a (by decide)
 refine List.pairwise_map.2 (List.Pairwise.imp_of_mem (fun {a b} ha hb hab e2=>?_) h1)
 have:=hr.one (hl a ha) (hl b hb) e2
 omega
def tlP (p:Int × Int) (fs:List (Int × Int)):Int × Int:=fs.foldl (fun p f=>bR p.1 p.2 f.1 f.2) p
theorem qJ (p:Int × Int):tlP p []=p:=rfl
theorem kP (p f:Int × Int) (fs:List (Int × Int)):tlP p (f::fs)=tlP (bR p.1 p.2 f.1 f.2) fs:=rfl
theorem fQ (p:Int × Int) (fs hs:List (Int × Int)):tlP p (fs++hs)=tlP (tlP p fs) hs:=List.foldl_append
theorem callP_tl {gs:List Fn1} {name:List UInt8} {n i:Nat} {pf:List UInt8→Option Nat} (hp:∀ s,pf s=cntF gs s) (p:Int × Int):gQ pf name n p i=tlP p (calF gs name n i):=by
 have hh:=hdN_find gs name
 unfold gQ calF
 by_cases e:hdN gs name<0
 ·rw[if_pos e,hp,hh.1.1 e]
  rfl
 ·rw[if_neg e,hp,hh.2 e]
  dsimp only
  by_cases e2:(gs.getD (hdN gs name).toNat fd).pms.length=n
  ·rw[if_pos e2,if_neg (fun h=>h e2)]
   rfl
  ·rw[if_neg e2,if_pos e2]
   rfl
theorem wk_tl {gs:List Fn1} {pf:List UInt8→Option Nat} (hp:∀ s,pf s=cntF gs s):∀ (n:Nat) (x:Ex),szE x≤n→∀ (env env':List (List UInt8)),(∀ s,0<env.count s↔s∈env')→∀ p,wkE pf env x p=tlP p ((snE env' x).flatMap (snF gs)):=by
 intro n
 induction n with
 |zero=>intro x h;have:=eu x;omega
 |succ n ih=>
  intro x hs env env' hm p
  cases x with
  |mk op name tail ty a b xs i=>
   rw[bP] at hs
   rw[oN,List.flatMap_append,fQ,rC]
   have e1:seeP pf (cnt env) op name xs.length i p=tlP p ((snO env' op name tail ty a b xs i).flatMap (snF gs)):=by
    unfold snO seeP
    by_cases e:op=6
    ·subst e
     rw[if_pos (show (6:Int)=6∨(6:Int)=7 from .inl rfl),List.flatMap_singleton]
     unfold snF
     by_cases hq:name∈env'
     ·have:¬ (cnt env name=0):=by
       have:=(hm name).2 hq
       show ¬ env.count name=0
       omega
      simp[this,hq,qJ]
     ·have:cnt env name=0:=by
       have h1:=hm name
       have h2:¬ 0<env.count name:=fun h=>hq (h1.1 h)
       show env.count name=0
       omega
      simp[this,hq,kP,qJ]
    ·by_cases e7:op=7
     ·subst e7
      rw[if_pos (show (7:Int)=6∨(7:Int)=7 from .inr rfl),List.flatMap_singleton]
      unfold snF
      dsimp only
      have e8:¬ ((7:Int)=6∧cnt env name=0):=fun h=>absurd h.1 (by decide)
      have e9:decide ((7:Int)=6∧name ∉ env')=false:=decide_eq_false fun h=>absurd h.1 (by decide)
      rw[if_neg e8,if_pos rfl,e9,if_neg (by decide),if_pos rfl,List.nil_append]
      exact callP_tl hp p
     ·dsimp only
      rw[if_neg e7,if_neg (fun h=>e h.1),if_neg (fun h=>h.elim e e7)]
      rfl
   rw[e1]
   have hl:∀ (ys:List Ex) (j:Nat) (p:Int × Int),(∀ y∈ys,szE y≤n)→wkL pf env op name tail j ys p=tlP p ((snL env' op name tail j ys).flatMap (snF gs)):=by
    intro ys
    induction ys with
    |nil=>intro j p _;rw[lh,jg];rfl
    |cons y ys ih2=>
     intro j p hy
     rw[eU,List.flatMap_append,fQ]
     rw[gz,ih y (hy y (by simp)) _ (env'++bnd6 op name tail j) (fun s=>?_) p]
     ·exact ih2 (j+1) _ (fun y' h'=>hy y' (by simp[h']))
     ·rw[List.count_append,List.mem_append,← hm s,← List.count_pos_iff (l:=bnd6 op name tail j)]
      omega
   refine hl xs 0 _ (fun y hy=>?_)
   have:szE y≤szL xs:=qD xs y hy
   omega
theorem tC (ps:List Pm):∀ k,k≤ps.length→∀ p,prmL [] (ps.take k) p=tlP p (prmK ps k)
 |0,_,p=>by rw[List.take_zero,prmL];rfl
 |k+1,hk,p=>by
  rw[fT,fQ,iR ps [] k p (by omega),tC ps k (by omega) p,List.nil_append]
  unfold prmF
  have h1:0<(nmsP (ps.take k)).count (ps.getD k pd).name↔(ps.getD k pd).name∈(ps.take k).map (·.name):=List.count_pos_iff
  by_cases h:(ps.getD k pd).name∈(ps.take k).map (·.name)
  ·rw[if_pos (h1.2 h),if_pos h];rfl
  ·rw[if_neg (fun e=>h (h1.1 e)),if_neg h];rfl
theorem hdN_before {gs:List Fn1} {k:Nat} (hk:k<gs.length):hdN gs (gs.getD k fd).name<k↔∃ j,j<k∧(gs.getD j fd).name=(gs.getD k fd).name:=by
 constructor
 ·intro h
  by_cases e:∃ j,j<k∧(gs.getD j fd).name=(gs.getD k fd).name
  ·exact e
  ·rw[qh hk (fun j hj e2=>e ⟨j,hj,e2⟩) rfl] at h
   omega
 ·rintro ⟨j,hj,e⟩
  have:=hdN_lt (gs:=gs) (j:=j) (by omega) e
  omega
theorem cntF_take {gs:List Fn1} {k:Nat} (hk:k<gs.length) (s:List UInt8):cntF (gs.take k) s=none↔∀ j,j<k→¬ (gs.getD j fd).name=s:=by
 unfold cntF
 rw[Option.map_eq_none_iff,List.find?_eq_none]
 constructor
 ·intro h j hj e
  have h1:j<gs.length:=by omega
  refine h gs[j] (List.mem_take_iff_getElem.2 ⟨j,by omega,rfl⟩) ?_
  rw[List.getD_eq_getElem?_getD,List.getElem?_eq_getElem h1] at e
  simpa using e
 ·intro h g hg
  obtain⟨j,hj,e⟩:=List.mem_take_iff_getElem.1 hg
  have:=h j (by omega)
  rw[List.getD_eq_getElem?_getD,List.getElem?_eq_getElem (by omega)] at this
  rw[← e]
  simpa using this
theorem sS (gs:List Fn1):∀ k,k≤gs.length→(dfnL (gs.take k) (fun _=>none,(0,0))).2=tlP (0,0) ((List.range k).flatMap (fV gs))
 |0,_=>rfl
 |k+1,hk=>by
  rw[lu gs k (by omega),List.range_succ,List.flatMap_append,List.flatMap_singleton,fQ,← sS gs k (by omega)]
  have hc:=iB (gs.take k) (fun _=>none) (0,0) (gs.getD k fd).name
  dsimp only at hc
  have h1:=cntF_take (gs:=gs) (k:=k) (by omega) (gs.getD k fd).name
  have h2:=hdN_before (gs:=gs) (k:=k) (by omega)
  unfold dfnP fV
  rw[hc]
  cases h3:cntF (gs.take k) (gs.getD k fd).name with
  |none=>
   have h4:=h1.1 h3
   rw[if_neg (fun e=>by obtain⟨j,hj,e2⟩:=h2.1 e;exact h4 j hj e2)]
   rfl
  |some n=>
   have h4:∃ j,j<k∧(gs.getD j fd).name=(gs.getD k fd).name:=by
    by_cases e:∃ j,j<k∧(gs.getD j fd).name=(gs.getD k fd).name
    ·exact e
    ·rw[h1.2 fun j hj e2=>e ⟨j,hj,e2⟩] at h3
     cases h3
   rw[if_pos (h2.2 h4)]
   rfl
def inF (gs:List Fn1) (k:Nat):List (Int × Int):=prmK (gs.getD k fd).pms (gs.getD k fd).pms.length++bodF gs (gs.getD k fd)
theorem sW (gs:List Fn1) {pf:List UInt8→Option Nat} (hp:∀ s,pf s=cntF gs s) (p:Int × Int):∀ k,k≤gs.length→winL pf (gs.take k) p=tlP p ((List.range k).flatMap (inF gs))
 |0,_=>rfl
 |k+1,hk=>by
  rw[mI pf gs k (by omega),List.range_succ,List.flatMap_append,List.flatMap_singleton,fQ,sW gs hp p k (by omega)]
  generalize tlP p ((List.range k).flatMap (inF gs))=r
  unfold winP inF
  have:=tC (gs.getD k fd).pms _ (Nat.le_refl _) r
  rw[List.take_length] at this
  rw[this,fQ]
  exact wk_tl hp _ _ (Nat.le_refl _) _ _ (fun s=>List.count_pos_iff) _
theorem scP_tl (gs:List Fn1):scP gs=tlP (0,0) ((List.range gs.length).flatMap (fV gs)++(List.range gs.length).flatMap (inF gs)):=by
 unfold scP
 have e2:∀ s,(dfnL gs (fun _=>none,(0,0))).1 s=cntF gs s:=fun s=>iB gs _ _ s
 have h1:=sS gs gs.length (Nat.le_refl _)
 have h2:=sW gs e2 (dfnL gs (fun _=>none,(0,0))).2 gs.length (Nat.le_refl _)
 rw[List.take_length] at h1 h2
 rw[h2,h1,fQ]
/-! The least one. -/
theorem qR:∀ (fs:List (Int × Int)) (p:Int × Int),¬ p.1=0→(∀ f∈fs,¬ f.1=0)→(tlP p fs=p∨tlP p fs∈fs)∧(tlP p fs).2≤p.2∧∀ f∈fs,(tlP p fs).2≤f.2
 |[],p,_,_=>⟨.inl rfl,Int.le_refl _,fun _ h=>by cases h⟩
 |f::fs,p,h,hz=>by
  rw[kP]
  have hq:(bR p.1 p.2 f.1 f.2=f∨bR p.1 p.2 f.1 f.2=p)∧(bR p.1 p.2 f.1 f.2).2≤p.2∧(bR p.1 p.2 f.1 f.2).2≤f.2:=by
   unfold bR
   split
   ·rename_i e
    refine⟨.inl rfl,?_,Int.le_refl _⟩
    show f.2≤p.2
    omega
   ·rename_i e
    refine⟨.inr rfl,Int.le_refl _,?_⟩
    show p.2≤f.2
    omega
  obtain⟨h1,h2,h3⟩:=hq
  have hn:¬ (bR p.1 p.2 f.1 f.2).1=0:=by
   rcases h1 with e|e
   ·rw[e];exact hz f (by simp)
   ·rw[e];exact h
  obtain⟨k1,k2,k3⟩:=qR fs _ hn fun g hg=>hz g (by simp[hg])
  refine⟨?_,Int.le_trans k2 h2,fun g hg=>?_⟩
  ·rcases k1 with e|e
   ·rcases h1 with e'|e'
    ·exact .inr (by rw[e,e'];simp)
    ·exact .inl (by rw[e,e'])
   ·exact .inr (List.mem_cons_of_mem _ e)
  ·rcases List.mem_cons.1 hg with rfl|hg
   ·exact Int.le_trans k2 h3
   ·exact k3 g hg
theorem tlP_least {fs:List (Int × Int)} (hz:∀ f∈fs,¬ f.1=0) (hne:fs≠[]):tlP (0,0) fs∈fs∧∀ f∈fs,(tlP (0,0) fs).2≤f.2:=by
 cases fs with
 |nil=>exact absurd rfl hne
 |cons f fs=>
  have e:tlP (0,0) (f::fs)=tlP f fs:=by
   rw[kP]
   unfold bR
   rw[if_pos (.inl rfl)]
  rw[e]
  obtain⟨k1,k2,k3⟩:=qR fs f (hz f (by simp)) fun g hg=>hz g (by simp[hg])
  refine⟨?_,fun g hg=>?_⟩
  ·rcases k1 with e|e
   ·rw[e];simp
   ·exact List.mem_cons_of_mem _ e
  ·rcases List.mem_cons.1 hg with rfl|hg
   ·exact k2
   ·exact k3 g hg
theorem nI:∀ (fs:List (Int × Int)) (p:Int × Int),¬ p.1=0→(∀ f∈fs,¬ f.1=0)→(fs.foldl (fun l f=>if l.1=0∨f.2<l.2 then f else l) p=p∨fs.foldl (fun l f=>if l.1=0∨f.2<l.2 then f else l) p∈fs) ∧
  (fs.foldl (fun l f=>if l.1=0∨f.2<l.2 then f else l) p).2≤p.2∧∀ f∈fs,(fs.foldl (fun l f=>if l.1=0∨f.2<l.2 then f else l) p).2≤f.2
 |[],p,_,_=>⟨.inl rfl,Int.le_refl _,fun _ h=>by cases h⟩
 |f::fs,p,h,hz=>by
  rw[List.foldl_cons]
  by_cases e:p.1=0∨f.2<p.2
  ·rw[if_pos e]
   obtain⟨k1,k2,k3⟩:=nI fs f (hz f (by simp)) fun g hg=>hz g (by simp[hg])
   refine⟨.inr ?_,by omega,fun g hg=>?_⟩
   ·rcases k1 with e|e
    ·rw[e];simp
    ·exact List.mem_cons_of_mem _ e
   ·rcases List.mem_cons.1 hg with rfl|hg
    ·exact k2
    ·exact k3 g hg
  ·rw[if_neg e]
   obtain⟨k1,k2,k3⟩:=nI fs p h fun g hg=>hz g (by simp[hg])
   refine⟨k1.imp id (List.mem_cons_of_mem _),k2,fun g hg=>?_⟩
   rcases List.mem_cons.1 hg with rfl|hg
   ·omega
   ·exact k3 g hg
theorem lsP_least {fs:List (Int × Int)} (hz:∀ f∈fs,¬ f.1=0) (hne:fs≠[]):lsP fs∈fs∧∀ f∈fs,(lsP fs).2≤f.2:=by
 cases fs with
 |nil=>exact absurd rfl hne
 |cons f fs=>
  unfold lsP
  rw[List.foldl_cons,if_pos (.inl rfl)]
  obtain⟨k1,k2,k3⟩:=nI fs f (hz f (by simp)) fun g hg=>hz g (by simp[hg])
  refine⟨?_,fun g hg=>?_⟩
  ·rcases k1 with e|e
   ·rw[e];simp
   ·exact List.mem_cons_of_mem _ e
  ·rcases List.mem_cons.1 hg with rfl|hg
   ·exact k2
   ·exact k3 g hg
/-! The places of faults are places of names, in their order. -/
theorem pG {α:Type} {f g:α→List Int}:∀ l:List α,(∀ x∈l,(f x).Sublist (g x))→(l.flatMap f).Sublist (l.flatMap g)
 |[],_=>List.Sublist.refl _
 |x::l,h=>by
  rw[List.flatMap_cons,List.flatMap_cons]
  exact (h x (by simp)).append (pG l fun y hy=>h y (by simp[hy]))
mutual
theorem tL (gs:List Fn1):∀ (x:Ex) (env:List (List UInt8)),(((snE env x).flatMap (snF gs)).map (·.2)).Sublist ((nmE x).map fun i:Nat=>(i:Int))
 |.mk op name tail ty p q xs i,env=>by
  rw[oN,om,List.flatMap_append,List.map_append,List.map_append]
  refine List.Sublist.append ?_ (uh gs xs env op name tail 0)
  unfold snO
  by_cases h:op=6∨op=7
  ·rw[if_pos h,if_pos h,List.flatMap_singleton]
   unfold snF
   rcases h with rfl|rfl
   ·dsimp only
    rw[if_neg (show ¬ (6:Int)=7 by decide),List.append_nil]
    split
    ·exact List.Sublist.refl _
    ·exact List.nil_sublist _
   ·dsimp only
    have e9:decide ((7:Int)=6∧name ∉ env)=false:=decide_eq_false fun h=>absurd h.1 (by decide)
    rw[if_pos rfl,e9,if_neg (by decide),List.nil_append]
    unfold calF
    split
    ·exact List.Sublist.refl _
    ·split
     ·exact List.Sublist.refl _
     ·exact List.nil_sublist _
  ·rw[if_neg h,if_neg h]
   exact List.Sublist.refl _
theorem uh (gs:List Fn1):∀ (xs:List Ex) (env:List (List UInt8)) (op:Int) (name tail:List UInt8) (j:Nat),(((snL env op name tail j xs).flatMap (snF gs)).map (·.2)).Sublist ((nmL xs).map fun i:Nat=>(i:Int))
 |[],env,op,name,tail,j=>by rw[jg,eF];exact List.Sublist.refl _
 |x::xs,env,op,name,tail,j=>by
  rw[eU,dL,List.flatMap_append,List.map_append,List.map_append]
  exact (tL gs x _).append (uh gs xs env op name tail (j+1))
end
theorem jP {α:Type} (f:Fn1→List α) (gs:List Fn1):∀ k,k≤gs.length→(List.range k).flatMap (fun j=>f (gs.getD j fd))=(gs.take k).flatMap f
 |0,_=>rfl
 |k+1,hk=>by
  rw[List.range_succ,List.flatMap_append,jP f gs k (by omega),List.take_succ_eq_append_getElem (by omega),List.flatMap_append,List.flatMap_singleton,List.flatMap_singleton,List.getD_eq_getElem?_getD,List.getElem?_eq_getElem (by omega)]
  rfl
theorem rF (ps:List Pm):∀ k,k≤ps.length→((prmK ps k).map (·.2)).Sublist ((ps.take k).map fun p=>(p.pos:Int))
 |0,_=>List.Sublist.refl _
 |k+1,hk=>by
  rw[fT,List.map_append,List.take_succ_eq_append_getElem (by omega),List.map_append]
  refine (rF ps k (by omega)).append ?_
  unfold prmF
  rw[List.getD_eq_getElem?_getD,List.getElem?_eq_getElem (by omega)]
  split
  ·exact List.Sublist.refl _
  ·exact List.nil_sublist _
theorem sub_ft (gs:List Fn1):((ftP gs).map (·.2)).Sublist ((gs.flatMap nmF).map fun i:Nat=>(i:Int)):=by
 have e:=jP (fun g=>(nmF g).map fun i:Nat=>(i:Int)) gs gs.length (Nat.le_refl _)
 rw[List.take_length] at e
 rw[List.map_flatMap,← e]
 unfold ftP fnK
 rw[List.map_flatMap]
 refine pG _ fun k hk=>?_
 have hk:=List.mem_range.1 hk
 unfold fnF nmF
 rw[List.map_append,List.map_append,List.map_cons,List.map_append]
 have h1:((fV gs k).map (·.2)).Sublist [((gs.getD k fd).pos:Int)]:=by
  unfold fV
  split
  ·exact List.Sublist.refl _
  ·exact List.nil_sublist _
 have h2:=rF (gs.getD k fd).pms _ (Nat.le_refl _)
 rw[List.take_length] at h2
 have h3:=tL gs (gs.getD k fd).body ((gs.getD k fd).pms.map (·.name))
 have h4:=h1.append (h2.append h3)
 rw[List.singleton_append] at h4
 rw[List.map_map]
 exact h4
theorem lJ:∀ {fs:List (Int × Int)},(fs.map (·.2)).Nodup→∀ f∈fs,∀ g∈fs,f.2=g.2→f=g
 |[],_,f,hf,_,_,_=>by cases hf
 |a::fs,h,f,hf,g,hg,e=>by
  rw[List.map_cons,List.nodup_cons] at h
  rcases List.mem_cons.1 hf with e1|hf1<;>rcases List.mem_cons.1 hg with e2|hg1
  ·rw[e1,e2]
  ·rw[e1] at e
   exact absurd (List.mem_map.2 ⟨g,hg1,e.symm⟩) h.1
  ·rw[e2] at e
   exact absurd (List.mem_map.2 ⟨f,hf1,e⟩) h.1
  ·exact lJ h.2 f hf1 g hg1 e
theorem scP_lsP {gs:List Fn1} (h:(gs.flatMap nmF).Nodup):scP gs=lsP (ftP gs):=by
 have hn:((ftP gs).map (·.2)).Nodup:=(sub_ft gs).nodup (List.pairwise_map.2 (h.imp fun hab e=>hab (Int.ofNat_inj.1 e)))
 have hm:∀ f,f∈(List.range gs.length).flatMap (fV gs)++(List.range gs.length).flatMap (inF gs)↔f∈ftP gs:=fun f=>by
  unfold ftP fnK
  rw[List.mem_append,List.mem_flatMap,List.mem_flatMap,List.mem_flatMap]
  constructor
  ·rintro (⟨k,hk,h⟩|⟨k,hk,h⟩)
   ·exact⟨k,hk,List.mem_append.2 (.inl h)⟩
   ·exact⟨k,hk,List.mem_append.2 (.inr h)⟩
  ·rintro ⟨k,hk,h⟩
   rcases List.mem_append.1 h with h|h
   ·exact .inl ⟨k,hk,h⟩
   ·exact .inr ⟨k,hk,h⟩
 rw[scP_tl]
 have hz:=ftP_why gs
 generalize (List.range gs.length).flatMap (fV gs)++(List.range gs.length).flatMap (inF gs)=A at hm
 by_cases hne:ftP gs=[]
 ·have:A=[]:=List.eq_nil_iff_forall_not_mem.2 fun f hf=>by
   have:=(hm f).1 hf
   rw[hne] at this
   cases this
  rw[this,hne]
  rfl
 ·have hA:A≠[]:=fun e=>hne (List.eq_nil_iff_forall_not_mem.2 fun f hf=>by
   have:=(hm f).2 hf
   rw[e] at this
   cases this)
  obtain⟨h1,h2⟩:=tlP_least (fun f hf=>hz f ((hm f).1 hf)) hA
  obtain⟨h3,h4⟩:=lsP_least hz hne
  refine lJ hn _ ((hm _).1 h1) _ h3 (Int.le_antisymm ?_ ?_)
  ·exact h2 _ ((hm _).2 h3)
  ·exact h4 _ ((hm _).1 h1)
end Go.Proofs.YtimoappbefindaaGreat
