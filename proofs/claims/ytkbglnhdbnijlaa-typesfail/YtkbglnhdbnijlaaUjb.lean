/-
  2 texts in one: what each proves stands at its head.
-/
import Derived.Test.YtkbglnhdbnijlaaUW
import Derived.Test.YtkbglnhdbnijlaaUr
namespace Go.Proofs.Ytkbglnhdbnijlaa
set_option maxHeartbeats 2000000
def Pls (M:Nat→Mk) (l:List Nat) (a b:Nat):Prop:=a≤b∧∃ js:List Nat,l=js.map (fun k=>(M k).at_)∧js.Pairwise (·<·)∧∀ k∈js,a≤k∧k<b∧(M k).kind=0
section
variable {M:Nat→Mk}
theorem Pls.nil {a b:Nat} (h:a≤b):Pls M [] a b:=⟨h,[],rfl,.nil,fun _ h=>by cases h⟩
theorem Pls.le {l:List Nat} {a b:Nat} (h:Pls M l a b):a≤b:=h.1
theorem Pls.mono {l:List Nat} {a b a' b':Nat} (h:Pls M l a b) (ha:a'≤a) (hb:b≤b'):Pls M l a' b':=by
 obtain⟨h0,js,e,h1,h2⟩:=h
 exact⟨by omega,js,e,h1,fun k hk=>⟨by have:=(h2 k hk).1;omega,by have:=(h2 k hk).2.1;omega,(h2 k hk).2.2⟩⟩
theorem Pls.app {l m:List Nat} {a b c d:Nat} (h:Pls M l a b) (k:Pls M m c d) (hb:b≤c):Pls M (l++m) a d:=by
 obtain⟨h0,js,e,h1,h2⟩:=h
 obtain⟨k0,ks,e',k1,k2⟩:=k
 refine⟨by omega,js++ks,by rw[e,e',List.map_append],List.pairwise_append.2 ⟨h1,k1,fun x hx y hy=>?_⟩,fun x hx=>?_⟩
 ·have:=(h2 x hx).2.1
  have:=(k2 y hy).1
  omega
 ·rcases List.mem_append.1 hx with hx|hx
  ·exact⟨(h2 x hx).1,by have:=(h2 x hx).2.1;omega,(h2 x hx).2.2⟩
  ·exact⟨by have:=(k2 x hx).1;omega,(k2 x hx).2⟩
theorem Pls.one {a b k:Nat} (ha:a≤k) (hb:k<b) (h0:(M k).kind=0):Pls M [(M k).at_] a b:=
 ⟨by omega,[k],rfl,List.pairwise_singleton _ _,fun x hx=>by obtain rfl:=List.mem_singleton.1 hx;exact⟨ha,hb,h0⟩⟩
def Rs.Ap {α:Type} (Q:α→Nat→Prop) (r:Rs α):Prop:=∀ a j,r=.ok a j→Q a j
theorem Rs.Ap.ok {α:Type} {Q:α→Nat→Prop} {a:α} {j:Nat} (h:Q a j):(Rs.ok a j).Ap Q:=by intro b i e;cases e;exact h
theorem Rs.Ap.bad {α:Type} {Q:α→Nat→Prop} {y:Int} {j:Nat}:(Rs.bad (α:=α) y j).Ap Q:=by intro b i e;cases e
theorem Rs.Ap.out {α:Type} {Q:α→Nat→Prop}:(Rs.out (α:=α)).Ap Q:=by intro b i e;cases e
theorem Rs.Ap.ite {α:Type} {Q:α→Nat→Prop} {p:Prop} [Decidable p] {x y:Rs α} (h1:p→x.Ap Q) (h2:¬ p→y.Ap Q):(if p then x else y).Ap Q:=by
 by_cases h:p
 ·rw[if_pos h];exact h1 h
 ·rw[if_neg h];exact h2 h
theorem Rs.Ap.bnd {α β:Type} {Q:β→Nat→Prop} {S:α→Nat→Prop} {r:Rs α} {g:α→Nat→Rs β} (hr:r.Ap S) (h:∀ a j,S a j→(g a j).Ap Q):(r.bind g).Ap Q:=by
 intro b i e
 obtain⟨a,j,e1,e2⟩:=bind_eq.1 e
 exact h a j (hr a j e1) b i e2
theorem Rs.Ap.mono {α:Type} {Q S:α→Nat→Prop} {r:Rs α} (hr:r.Ap S) (h:∀ a j,S a j→Q a j):r.Ap Q:=fun a j e=>h a j (hr a j e)
variable (M) (L:Lm)
end
end Go.Proofs.Ytkbglnhdbnijlaa
namespace Go.Proofs.Ytkbglnhdbnijlaa
def tlP (p:Int × Int) (fs:List (Int × Int)):Int × Int:=fs.foldl (fun p f=>tellP p.1 p.2 f.1 f.2) p
theorem tlP_nil (p:Int × Int):tlP p []=p:=rfl
theorem tlP_cons (p f:Int × Int) (fs:List (Int × Int)):tlP p (f::fs)=tlP (tellP p.1 p.2 f.1 f.2) fs:=rfl
theorem tlP_app (p:Int × Int) (fs hs:List (Int × Int)):tlP p (fs++hs)=tlP (tlP p fs) hs:=List.foldl_append
theorem callP_tl {gs:List Fn1} {name:List UInt8} {n i:Nat} {pf:List UInt8→Option Nat} (hp:∀ s,pf s=cntF gs s) (p:Int × Int):callP pf name n p i=tlP p (calF gs name n i):=by
 have hh:=hdN_find gs name
 unfold callP calF
 by_cases e:hdN gs name<0
 ·rw[if_pos e,hp,hh.1.1 e]
  rfl
 ·rw[if_neg e,hp,hh.2 e]
  dsimp only
  by_cases e2:(gs.getD (hdN gs name).toNat fd).pms.length=n
  ·rw[if_pos e2,if_neg (fun h=>h e2)]
   rfl
  ·rw[if_neg e2,if_pos e2]
   rfl
theorem wk_tl {gs:List Fn1} {pf:List UInt8→Option Nat} (hp:∀ s,pf s=cntF gs s):∀ (n:Nat) (x:Ex),szE x≤n→∀ (env env':List (List UInt8)),(∀ s,0<env.count s↔s∈env')→∀ p,wkE pf env x p=tlP p ((snE env' x).flatMap (snF gs)):=by
 intro n
 induction n with
 |zero=>intro x h;have:=szE_pos x;omega
 |succ n ih=>
  intro x hs env env' hm p
  cases x with
  |mk op name tail ty a b xs i=>
   rw[szE_mk] at hs
   rw[snE_mk,List.flatMap_append,tlP_app,wkE_mk]
   have e1:seeP pf (cnt env) op name xs.length i p=tlP p ((snO env' op name tail ty a b xs i).flatMap (snF gs)):=by
    unfold snO seeP
    by_cases e:op=6
    ·subst e
     rw[if_pos (show (6:Int)=6∨(6:Int)=7 from .inl rfl),List.flatMap_singleton]
     unfold snF
     by_cases hq:name∈env'
     ·have:¬ (cnt env name=0):=by
       have:=(hm name).2 hq
       show ¬ env.count name=0
       omega
      simp[this,hq,tlP_nil]
     ·have:cnt env name=0:=by
       have h1:=hm name
       have h2:¬ 0<env.count name:=fun h=>hq (h1.1 h)
       show env.count name=0
       omega
      simp[this,hq,tlP_cons,tlP_nil]
    ·by_cases e7:op=7
     ·subst e7
      rw[if_pos (show (7:Int)=6∨(7:Int)=7 from .inr rfl),List.flatMap_singleton]
      unfold snF
      dsimp only
      have e8:¬ ((7:Int)=6∧cnt env name=0):=fun h=>absurd h.1 (by decide)
      have e9:decide ((7:Int)=6∧name ∉ env')=false:=decide_eq_false fun h=>absurd h.1 (by decide)
      rw[if_neg e8,if_pos rfl,e9,if_neg (by decide),if_pos rfl,List.nil_append]
      exact callP_tl hp p
     ·dsimp only
      rw[if_neg e7,if_neg (fun h=>e h.1),if_neg (fun h=>h.elim e e7)]
      rfl
   rw[e1]
   have hl:∀ (ys:List Ex) (j:Nat) (p:Int × Int),(∀ y∈ys,szE y≤n)→wkL pf env op name tail j ys p=tlP p ((snL env' op name tail j ys).flatMap (snF gs)):=by
    intro ys
    induction ys with
    |nil=>intro j p _;rw[wkL_nil,snL_nil];rfl
    |cons y ys ih2=>
     intro j p hy
     rw[snL_cons,List.flatMap_append,tlP_app]
     rw[wkL_cons,ih y (hy y (by simp)) _ (env'++bnd6 op name tail j) (fun s=>?_) p]
     ·exact ih2 (j+1) _ (fun y' h'=>hy y' (by simp[h']))
     ·rw[List.count_append,List.mem_append,← hm s,← List.count_pos_iff (l:=bnd6 op name tail j)]
      omega
   refine hl xs 0 _ (fun y hy=>?_)
   have:szE y≤szL xs:=szE_mem xs y hy
   omega
theorem prm_tl (ps:List Pm):∀ k,k≤ps.length→∀ p,prmL [] (ps.take k) p=tlP p (prmK ps k)
 |0,_,p=>by rw[List.take_zero,prmL];rfl
 |k+1,hk,p=>by
  rw[prmK_step,tlP_app,prmL_step ps [] k p (by omega),prm_tl ps k (by omega) p,List.nil_append]
  unfold prmF
  have h1:0<(nmsP (ps.take k)).count (ps.getD k pd).name↔(ps.getD k pd).name∈(ps.take k).map (·.name):=List.count_pos_iff
  by_cases h:(ps.getD k pd).name∈(ps.take k).map (·.name)
  ·rw[if_pos (h1.2 h),if_pos h];rfl
  ·rw[if_neg (fun e=>h (h1.1 e)),if_neg h];rfl
theorem hdN_before {gs:List Fn1} {k:Nat} (hk:k<gs.length):hdN gs (gs.getD k fd).name<k↔∃ j,j<k∧(gs.getD j fd).name=(gs.getD k fd).name:=by
 constructor
 ·intro h
  by_cases e:∃ j,j<k∧(gs.getD j fd).name=(gs.getD k fd).name
  ·exact e
  ·rw[hdN_at hk (fun j hj e2=>e ⟨j,hj,e2⟩) rfl] at h
   omega
 ·rintro ⟨j,hj,e⟩
  have:=hdN_lt (gs:=gs) (j:=j) (by omega) e
  omega
theorem cntF_take {gs:List Fn1} {k:Nat} (hk:k<gs.length) (s:List UInt8):cntF (gs.take k) s=none↔∀ j,j<k→¬ (gs.getD j fd).name=s:=by
 unfold cntF
 rw[Option.map_eq_none_iff,List.find?_eq_none]
 constructor
 ·intro h j hj e
  have h1:j<gs.length:=by omega
  refine h gs[j] (List.mem_take_iff_getElem.2 ⟨j,by omega,rfl⟩) ?_
  rw[List.getD_eq_getElem?_getD,List.getElem?_eq_getElem h1] at e
  simpa using e
 ·intro h g hg
  obtain⟨j,hj,e⟩:=List.mem_take_iff_getElem.1 hg
  have:=h j (by omega)
  rw[List.getD_eq_getElem?_getD,List.getElem?_eq_getElem (by omega)] at this
  rw[← e]
  simpa using this
theorem dfn_tl (gs:List Fn1):∀ k,k≤gs.length→(dfnL (gs.take k) (fun _=>none,(0,0))).2=tlP (0,0) ((List.range k).flatMap (headF gs))
 |0,_=>rfl
 |k+1,hk=>by
  rw[dfnL_step gs k (by omega),List.range_succ,List.flatMap_append,List.flatMap_singleton,tlP_app,← dfn_tl gs k (by omega)]
  have hc:=dfnL_cnt (gs.take k) (fun _=>none) (0,0) (gs.getD k fd).name
  dsimp only at hc
  have h1:=cntF_take (gs:=gs) (k:=k) (by omega) (gs.getD k fd).name
  have h2:=hdN_before (gs:=gs) (k:=k) (by omega)
  unfold dfnP headF
  rw[hc]
  cases h3:cntF (gs.take k) (gs.getD k fd).name with
  |none=>
   have h4:=h1.1 h3
   rw[if_neg (fun e=>by obtain⟨j,hj,e2⟩:=h2.1 e;exact h4 j hj e2)]
   rfl
  |some n=>
   have h4:∃ j,j<k∧(gs.getD j fd).name=(gs.getD k fd).name:=by
    by_cases e:∃ j,j<k∧(gs.getD j fd).name=(gs.getD k fd).name
    ·exact e
    ·rw[h1.2 fun j hj e2=>e ⟨j,hj,e2⟩] at h3
     cases h3
   rw[if_pos (h2.2 h4)]
   rfl
def inF (gs:List Fn1) (k:Nat):List (Int × Int):=prmK (gs.getD k fd).pms (gs.getD k fd).pms.length++bodF gs (gs.getD k fd)
theorem win_tl (gs:List Fn1) {pf:List UInt8→Option Nat} (hp:∀ s,pf s=cntF gs s) (p:Int × Int):∀ k,k≤gs.length→winL pf (gs.take k) p=tlP p ((List.range k).flatMap (inF gs))
 |0,_=>rfl
 |k+1,hk=>by
  rw[winL_step pf gs k (by omega),List.range_succ,List.flatMap_append,List.flatMap_singleton,tlP_app,win_tl gs hp p k (by omega)]
  generalize tlP p ((List.range k).flatMap (inF gs))=r
  unfold winP inF
  have:=prm_tl (gs.getD k fd).pms _ (Nat.le_refl _) r
  rw[List.take_length] at this
  rw[this,tlP_app]
  exact wk_tl hp _ _ (Nat.le_refl _) _ _ (fun s=>List.count_pos_iff) _
theorem scP_tl (gs:List Fn1):scP gs=tlP (0,0) ((List.range gs.length).flatMap (headF gs)++(List.range gs.length).flatMap (inF gs)):=by
 unfold scP
 have e2:∀ s,(dfnL gs (fun _=>none,(0,0))).1 s=cntF gs s:=fun s=>dfnL_cnt gs _ _ s
 have h1:=dfn_tl gs gs.length (Nat.le_refl _)
 have h2:=win_tl gs e2 (dfnL gs (fun _=>none,(0,0))).2 gs.length (Nat.le_refl _)
 rw[List.take_length] at h1 h2
 rw[h2,h1,tlP_app]
/-! The least one. -/
theorem tlP_key:∀ (fs:List (Int × Int)) (p:Int × Int),¬ p.1=0→(∀ f∈fs,¬ f.1=0)→(tlP p fs=p∨tlP p fs∈fs)∧(tlP p fs).2≤p.2∧∀ f∈fs,(tlP p fs).2≤f.2
 |[],p,_,_=>⟨.inl rfl,Int.le_refl _,fun _ h=>by cases h⟩
 |f::fs,p,h,hz=>by
  rw[tlP_cons]
  have hq:(tellP p.1 p.2 f.1 f.2=f∨tellP p.1 p.2 f.1 f.2=p)∧(tellP p.1 p.2 f.1 f.2).2≤p.2∧(tellP p.1 p.2 f.1 f.2).2≤f.2:=by
   unfold tellP
   split
   ·rename_i e
    refine⟨.inl rfl,?_,Int.le_refl _⟩
    show f.2≤p.2
    omega
   ·rename_i e
    refine⟨.inr rfl,Int.le_refl _,?_⟩
    show p.2≤f.2
    omega
  obtain⟨h1,h2,h3⟩:=hq
  have hn:¬ (tellP p.1 p.2 f.1 f.2).1=0:=by
   rcases h1 with e|e
   ·rw[e];exact hz f (by simp)
   ·rw[e];exact h
  obtain⟨k1,k2,k3⟩:=tlP_key fs _ hn fun g hg=>hz g (by simp[hg])
  refine⟨?_,Int.le_trans k2 h2,fun g hg=>?_⟩
  ·rcases k1 with e|e
   ·rcases h1 with e'|e'
    ·exact .inr (by rw[e,e'];simp)
    ·exact .inl (by rw[e,e'])
   ·exact .inr (List.mem_cons_of_mem _ e)
  ·rcases List.mem_cons.1 hg with rfl|hg
   ·exact Int.le_trans k2 h3
   ·exact k3 g hg
theorem tlP_least {fs:List (Int × Int)} (hz:∀ f∈fs,¬ f.1=0) (hne:fs≠[]):tlP (0,0) fs∈fs∧∀ f∈fs,(tlP (0,0) fs).2≤f.2:=by
 cases fs with
 |nil=>exact absurd rfl hne
 |cons f fs=>
  have e:tlP (0,0) (f::fs)=tlP f fs:=by
   rw[tlP_cons]
   unfold tellP
   rw[if_pos (.inl rfl)]
  rw[e]
  obtain⟨k1,k2,k3⟩:=tlP_key fs f (hz f (by simp)) fun g hg=>hz g (by simp[hg])
  refine⟨?_,fun g hg=>?_⟩
  ·rcases k1 with e|e
   ·rw[e];simp
   ·exact List.mem_cons_of_mem _ e
  ·rcases List.mem_cons.1 hg with rfl|hg
   ·exact k2
   ·exact k3 g hg
end Go.Proofs.Ytkbglnhdbnijlaa
