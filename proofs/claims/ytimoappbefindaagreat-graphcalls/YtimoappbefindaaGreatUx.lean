/-
  2 texts in one: what each proves stands at its head.
-/
import Derived.Test.YtimoappbefindaaGreatUj
import Derived.Test.YtimoappbefindaaGreatUM
import Derived.Test.YtimoappbefindaaGreatUV
import Derived.Test.YtimoappbefindaaGreatUkk
import Derived.Deep.RegionHeld3
import Derived.Deep.DeepCutAuto
import Derived.Test.YtimoappbefindaaGreatUO
namespace Go.Proofs.YtimoappbefindaaGreat
open Go.RowKit
set_option maxRecDepth 100000
theorem params_len (M:Nat→Mk) (L:Lm):∀ f acc k ps j,aP M L f acc k=.ok ps j→ps.length+k≤acc.length+j:=by
 intro f
 induction f with
 |zero=>intro acc k ps j h;cases h
 |succ f ih=>
  intro acc k ps j h
  rw[aP] at h
  split at h
  ·obtain⟨a,k1,h1,h2⟩:=au.1 h
   have hg:k+1≤k1:=by
    unfold aZ at h1
    obtain⟨x,i1,g1,h1⟩:=au.1 h1
    obtain⟨t,i2,g2,h1⟩:=au.1 h1
    cases h1
    have e1:=(lM g1).1
    have a1:k+1≤i1:=by have:=kL M (k+1);rw[e1] at this;exact this
    have a2:i1≤k1:=by have:=dZ M i1;rw[g2] at this;exact this
    omega
   have:=ih _ _ _ _ h2
   simp at this
   omega
  ·obtain⟨u,k1,h1,h2⟩:=au.1 h
   cases h2
   have:=(jT h1).2
   omega
theorem def_pms {M:Nat→Mk} {L:Lm} {f n k:Nat} {g:Fn1} {j:Nat} (h:defP M L f n k=.ok g j):g.pms.length≤j:=by
 unfold defP at h
 obtain⟨x,k1,h1,h⟩:=au.1 h
 obtain⟨ps,k2,h2,h⟩:=au.1 h
 obtain⟨_,k3,h3,h⟩:=au.1 h
 obtain⟨t,k4,h4,h⟩:=au.1 h
 obtain⟨_,k5,h5,h⟩:=au.1 h
 obtain⟨b,k6,h6,h⟩:=au.1 h
 obtain⟨_,k7,h7,h⟩:=au.1 h
 cases h
 have a3:k2≤k3:=by have:=bZ M [58] k2;rw[h3] at this;exact this
 have a4:k3≤k4:=by have:=dZ M k3;rw[h4] at this;exact this
 have a5:k4≤k5:=by have:=bZ M [61] k4;rw[h5] at this;exact this
 have a6:k5≤k6:=by have:=(nA M L f).exprP 0 k5;rw[h6] at this;exact this
 have a7:k6≤j:=by have:=bZ M [59] k6;rw[h7] at this;exact this
 have a2:ps.length≤k2:=by
  unfold aV at h2
  obtain⟨_,i1,g1,h2⟩:=au.1 h2
  split at h2
  ·cases h2
   simp
  ·obtain⟨a,i2,g2,h2⟩:=au.1 h2
   have e:=(jT g1).2
   have:=params_len M L f _ _ _ _ h2
   have hg:i1≤i2:=by
    unfold aZ at g2
    obtain⟨x,i3,g3,g2⟩:=au.1 g2
    obtain⟨t,i4,g4,g2⟩:=au.1 g2
    cases g2
    have e1:=(lM g3).1
    have a1:i1≤i3:=by have:=kL M i1;rw[e1] at this;exact this
    have a2:i3≤i2:=by have:=dZ M i3;rw[g4] at this;exact this
    omega
   simp at this
   omega
 show ps.length≤j
 omega
theorem prog_len (M:Nat→Mk) (L:Lm):∀ f acc k gs j,aS M L f acc k=.ok gs j→k+1≤j∧gs.length+k≤acc.length+j∧((∀ g∈acc,g.pms.length≤j)→∀ g∈gs,g.pms.length≤j):=by
 intro f
 induction f with
 |zero=>intro acc k gs j h;cases h
 |succ f ih=>
  intro acc k gs j h
  rw[aS] at h
  obtain⟨g,k1,h1,h2⟩:=au.1 h
  have hg:=qm h1
  have hp:=def_pms h1
  split at h2
  ·cases h2
   refine⟨hg,by simp;omega,fun ha x hx=>?_⟩
   rcases List.mem_append.1 hx with hx|hx
   ·exact ha x hx
   ·obtain rfl:=List.mem_singleton.1 hx
    exact hp
  ·obtain⟨i1,i2,i3⟩:=ih _ _ _ _ h2
   refine⟨by omega,by simp at i2;omega,fun ha=>i3 fun x hx=>?_⟩
   rcases List.mem_append.1 hx with hx|hx
   ·exact ha x hx
   ·obtain rfl:=List.mem_singleton.1 hx
    omega
theorem FlW.body {w:World} {A:Nat→Prop} {ao:Option Addr} {gs:List Fn1} (h:FlW w A ao gs) (k:Nat) (hk:k<gs.length):∃ g es,ao=some ⟨g,0,none⟩∧g<w.heap.size∧w.rangeAt g (k*11+3) es∧ExW w A (gs.getD k fd).body es:=by
 obtain⟨g,vs,e,_,hr,ao',c',es,rfl,_,hx⟩:=h.at k hk
 have hl:=hx.len
 refine⟨g,es,e,cu (hr 0 _ rfl),fun j v hv=>?_,hx⟩
 have:=hr (3+j) v (by
  have hj:=(List.getElem?_eq_some_iff.1 hv).1
  rw[show 3+j=j+1+1+1 by omega,List.getElem?_cons_succ,List.getElem?_cons_succ,List.getElem?_cons_succ,List.getElem?_append_left hj]
  exact hv)
 rwa[← Nat.add_assoc] at this
end Go.Proofs.YtimoappbefindaaGreat
