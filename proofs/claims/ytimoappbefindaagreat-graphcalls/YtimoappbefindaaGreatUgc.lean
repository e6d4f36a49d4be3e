/-
  3 texts in one: what each proves stands at its head.
-/
namespace Go.Proofs.YtimoappbefindaaGreat
namespace Od
set_option autoImplicit false
section
variable (adj:Nat→List Nat) (lst:Nat→Nat) (n:Nat)
def nC (g h:Nat):Prop:=∃ v,v<n∧lst v=g∧∃ w,w∈adj v∧lst w=h∧h≠g
def Avail (out:List Nat) (g:Nat):Prop:=g<n∧lst g=g∧g ∉ out∧∀ h,nC adj lst n g h→h∈out
def Steps (out:List Nat):Prop:=∀ k,k<out.length→Avail adj lst n (out.take k) (out.getD k 0)∧∀ g,Avail adj lst n (out.take k) g→out.getD k 0≤g
def Fin (out:List Nat):Prop:=Steps adj lst n out∧∀ g,¬ Avail adj lst n out g
end
section
variable {adj:Nat→List Nat} {lst:Nat→Nat} {n:Nat}
theorem take_more {l:List Nat} {k:Nat} (h:k<l.length):l.take (k+1)=l.take k++[l.getD k 0]:=by
 rw[List.take_succ_eq_append_getElem h,List.getD_eq_getElem?_getD,List.getElem?_eq_getElem h]
 rfl
theorem Steps.nil:Steps adj lst n []:=fun k hk=>absurd hk (Nat.not_lt_zero k)
theorem Steps.more {out:List Nat} (h:Steps adj lst n out) {g:Nat} (hg:Avail adj lst n out g) (hm:∀ g',Avail adj lst n out g'→g≤g'):Steps adj lst n (out++[g]):=by
 intro k hk
 rw[List.length_append,List.length_singleton] at hk
 by_cases e:k<out.length
 ·rw[List.take_append_of_le_length (by omega),List.getD_eq_getElem?_getD,List.getElem?_append_left e,← List.getD_eq_getElem?_getD]
  exact h k e
 ·obtain rfl:k=out.length:=by omega
  rw[List.take_left,List.getD_eq_getElem?_getD,List.getElem?_append_right (Nat.le_refl _),Nat.sub_self]
  exact⟨hg,hm⟩
theorem pO {a b:List Nat} (ha:Fin adj lst n a) (hb:Fin adj lst n b):∀ k,k≤a.length→k≤b.length∧a.take k=b.take k:=by
 intro k
 induction k with
 |zero=>intro _;exact⟨Nat.zero_le _,by simp⟩
 |succ k ih=>
  intro hk
  obtain⟨h1,h2⟩:=ih (by omega)
  obtain⟨g1,g2⟩:=ha.1 k (by omega)
  have hkb:k<b.length:=by
   rcases Nat.lt_or_ge k b.length with h|h
   ·exact h
   ·exfalso
    have e:b.take k=b:=List.take_of_length_le h
    rw[h2,e] at g1
    exact hb.2 _ g1
  obtain⟨f1,f2⟩:=hb.1 k hkb
  refine⟨hkb,?_⟩
  rw[take_more (by omega),take_more hkb,h2]
  rw[h2] at g1 g2
  have:=g2 _ f1
  have:=f2 _ g1
  have e:a.getD k 0=b.getD k 0:=by omega
  rw[e]
theorem fin_one {a b:List Nat} (ha:Fin adj lst n a) (hb:Fin adj lst n b):a=b:=by
 obtain⟨h1,h2⟩:=pO ha hb a.length (Nat.le_refl _)
 obtain⟨h3,_⟩:=pO hb ha b.length (Nat.le_refl _)
 rw[List.take_length] at h2
 rw[h2,List.take_of_length_le (by omega)]
theorem Steps.leans {out:List Nat} (h:Steps adj lst n out) {g k:Nat} (hg:g∈out) (hl:nC adj lst n g k):k∈out:=by
 obtain⟨i,hi,e⟩:=List.getElem_of_mem hg
 have h1:=(h i hi).1.2.2.2 k (by rw[List.getD_eq_getElem?_getD,List.getElem?_eq_getElem hi];exact e ▸ hl)
 exact List.mem_of_mem_take h1
end
def edges (adj:Nat→List Nat) (lst:Nat→Nat) (n:Nat):List (Nat × Nat):=(List.range n).flatMap fun v=>((adj v).filter fun w=>lst w≠lst v).map fun w=>(lst v,lst w)
def waits (es:List (Nat × Nat)) (out:List Nat) (h:Nat):Nat:=es.countP fun e=>e.1=h∧e.2 ∉ out
def leaning (es:List (Nat × Nat)) (g:Nat):List Nat:=(es.filter fun e=>e.2=g).map (·.1)
section
variable {adj:Nat→List Nat} {lst:Nat→Nat} {n:Nat}
theorem iL {g h:Nat}:(g,h)∈edges adj lst n↔nC adj lst n g h:=by
 unfold edges nC
 simp only[List.mem_flatMap,List.mem_range,List.mem_map,List.mem_filter,Prod.mk.injEq,decide_eq_true_eq,ne_eq]
 constructor
 ·rintro ⟨v,hv,w,⟨hw,hne⟩,rfl,rfl⟩
  exact⟨v,hv,rfl,w,hw,rfl,hne⟩
 ·rintro ⟨v,hv,rfl,w,hw,rfl,hne⟩
  exact⟨v,hv,w,⟨hw,hne⟩,rfl,rfl⟩
theorem avail_iff {out:List Nat} {g:Nat}:Avail adj lst n out g↔g<n∧lst g=g∧g ∉ out∧waits (edges adj lst n) out g=0:=by
 unfold Avail waits
 rw[List.countP_eq_zero]
 constructor
 ·rintro ⟨h1,h2,h3,h4⟩
  refine⟨h1,h2,h3,fun e he=>?_⟩
  obtain⟨a,b⟩:=e
  simp only[decide_eq_true_eq,not_and,Decidable.not_not]
  rintro rfl
  exact h4 b (iL.1 he)
 ·rintro ⟨h1,h2,h3,h4⟩
  refine⟨h1,h2,h3,fun h hl=>?_⟩
  have:=h4 (g,h) (iL.2 hl)
  simpa using this
theorem waits_more (es:List (Nat × Nat)) (out:List Nat) (g h:Nat) (hg:g ∉ out):waits es (out++[g]) h+(leaning es g).count h=waits es out h:=by
 unfold waits leaning
 induction es with
 |nil=>rfl
 |cons e es ih=>
  obtain⟨a,b⟩:=e
  rw[List.countP_cons,List.countP_cons,List.filter_cons]
  by_cases hb:b=g
  ·subst hb
   have e1:(decide ((a,b).1=h∧(a,b).2 ∉ out++[b]))=false:=decide_eq_false fun k=>k.2 (by simp)
   have e2:(decide ((a,b).2=b))=true:=decide_eq_true rfl
   rw[e1,e2]
   simp only[Bool.false_eq_true,if_false,if_true,List.map_cons,List.count_cons]
   by_cases ha:a=h
   ·have e3:(decide (a=h∧b ∉ out))=true:=decide_eq_true ⟨ha,hg⟩
    have e4:(a==h)=true:=by simpa using ha
    rw[e3,e4]
    simp only[if_true]
    omega
   ·have e3:(decide (a=h∧b ∉ out))=false:=decide_eq_false fun k=>ha k.1
    have e4:(a==h)=false:=by simpa using ha
    rw[e3,e4]
    simp only[Bool.false_eq_true,if_false]
    omega
  ·have e1:(decide ((a,b).1=h∧(a,b).2 ∉ out++[g]))=decide ((a,b).1=h∧(a,b).2 ∉ out):=by simp[hb]
   have e2:(decide ((a,b).2=g))=false:=decide_eq_false hb
   rw[e1,e2]
   simp only[Bool.false_eq_true,if_false]
   omega
theorem fI {g h:Nat}:h∈leaning (edges adj lst n) g↔nC adj lst n h g:=by
 unfold leaning
 rw[List.mem_map]
 constructor
 ·rintro ⟨⟨a,b⟩,he,rfl⟩
  rw[List.mem_filter] at he
  have hb:b=g:=by simpa using he.2
  subst hb
  exact iL.1 he.1
 ·intro hl
  exact⟨(h,g),List.mem_filter.2 ⟨iL.2 hl,by simp⟩,rfl⟩
def Hand (adj:Nat→List Nat) (lst:Nat→Nat) (n:Nat) (out:List Nat) (g:Nat) (l:List Nat) (x:Nat):Prop:=(Avail adj lst n out x∧x≠g)∨(x∈l∧waits (edges adj lst n) out x=l.count x)
theorem hand_zero {out:List Nat} {g x:Nat}:Hand adj lst n out g [] x↔Avail adj lst n out x∧x≠g:=by simp[Hand]
theorem hand_more {out:List Nat} {g y x:Nat} {l:List Nat} (hw:l.count y<waits (edges adj lst n) out y):Hand adj lst n out g (l++[y]) x↔Hand adj lst n out g l x∨(x=y∧waits (edges adj lst n) out y=l.count y+1):=by
 unfold Hand
 rw[List.mem_append,List.mem_singleton,List.count_append]
 by_cases e:x=y
 ·subst e
  simp only[List.count_singleton_self,or_true,true_and]
  constructor
  ·rintro (h|h)
   ·exact .inl (.inl h)
   ·exact .inr h
  ·rintro ((h|h)|h)
   ·exact .inl h
   ·omega
   ·exact .inr h
 ·have:List.count x [y]=0:=by rw[List.count_eq_zero];simpa using e
  rw[this]
  simp[e]
theorem hand_not {out:List Nat} {g y:Nat} {l:List Nat} (hw:l.count y<waits (edges adj lst n) out y):¬ Hand adj lst n out g l y:=by
 rintro (⟨h,_⟩|⟨_,h⟩)
 ·have:=(avail_iff.1 h).2.2.2;omega
 ·omega
theorem hand_end {out:List Nat} {g x:Nat} (hs:Steps adj lst n out) (hg:Avail adj lst n out g) (hid:∀ v,v<n→lst v<n∧lst (lst v)=lst v):Hand adj lst n out g (leaning (edges adj lst n) g) x↔Avail adj lst n (out++[g]) x:=by
 have hw:=waits_more (edges adj lst n) out g x hg.2.2.1
 rw[avail_iff (out:=out++[g])]
 unfold Hand
 rw[avail_iff,List.mem_append,List.mem_singleton,not_or,fI]
 constructor
 ·rintro (⟨⟨h1,h2,h3,h4⟩,h5⟩|⟨h1,h2⟩)
  ·exact⟨h1,h2,⟨h3,h5⟩,by omega⟩
  ·obtain⟨v,hv,rfl,w,hw1,hw2,hne⟩:=h1
   refine⟨(hid v hv).1,(hid v hv).2,⟨fun hm=>?_,fun e=>hne e.symm⟩,by omega⟩
   exact hg.2.2.1 (hs.leans hm ⟨v,hv,rfl,w,hw1,hw2,hne⟩)
 ·rintro ⟨h1,h2,⟨h3,h4⟩,h5⟩
  by_cases e:(leaning (edges adj lst n) g).count x=0
  ·exact .inl ⟨⟨h1,h2,h3,by omega⟩,h4⟩
  ·right
   have:x∈leaning (edges adj lst n) g:=by
    apply Decidable.byContradiction
    intro k
    exact e (List.count_eq_zero.2 k)
   exact⟨fI.1 this,by omega⟩
end
end Od
namespace Hq
set_option autoImplicit false
def at_ (L:List Int) (k:Nat):Int:=L.getD k 0
def sw (L:List Int) (i j:Nat):List Int:=(L.set i (at_ L j)).set j (at_ L i)
def sg (i j k:Nat):Nat:=if k=i then j else if k=j then i else k
theorem sO (L:List Int) (i j:Nat):(sw L i j).length=L.length:=by simp[sw]
theorem at_set (L:List Int) (i k:Nat) (x:Int) (hi:i<L.length):at_ (L.set i x) k=if k=i then x else at_ L k:=by
 unfold at_
 rw[List.getD_eq_getElem?_getD,List.getElem?_set]
 by_cases e:i=k
 ·subst e;rw[if_pos rfl,if_pos hi,if_pos rfl];rfl
 ·rw[if_neg e,if_neg (fun h=>e h.symm),List.getD_eq_getElem?_getD]
theorem iw (L:List Int) {i j:Nat} (hi:i<L.length) (hj:j<L.length) (k:Nat):at_ (sw L i j) k=at_ L (sg i j k):=by
 unfold sw sg
 rw[at_set _ _ _ _ (by simpa using hj),at_set _ _ _ _ hi]
 by_cases e:k=j
 ·subst e
  rw[if_pos rfl]
  by_cases e2:k=i
  ·subst e2;rw[if_pos rfl]
  ·rw[if_neg e2,if_pos rfl]
 ·rw[if_neg e]
  by_cases e2:k=i
  ·rw[if_pos e2,if_pos e2]
  ·rw[if_neg e2,if_neg e2,if_neg e]
theorem qB {i j k n:Nat} (hi:i<n) (hj:j<n) (hk:k<n):sg i j k<n:=by unfold sg;split<;>(try split)<;>omega
theorem rT {i j:Nat} (k:Nat):sg i j (sg i j k)=k:=by unfold sg;split<;>(try split)<;>(try split)<;>(try split)<;>omega
def In (L:List Int) (n:Nat) (x:Int):Prop:=∃ k,k<n∧at_ L k=x
def Inj (L:List Int) (n:Nat):Prop:=∀ a b,a<n→b<n→at_ L a=at_ L b→a=b
theorem sw_in {L:List Int} {i j n:Nat} (hi:i<n) (hj:j<n) (hn:n≤L.length) (x:Int):In (sw L i j) n x↔In L n x:=by
 constructor
 ·rintro ⟨k,hk,e⟩
  rw[iw L (by omega) (by omega)] at e
  exact⟨_,qB hi hj hk,e⟩
 ·rintro ⟨k,hk,e⟩
  exact⟨sg i j k,qB hi hj hk,by rw[iw L (by omega) (by omega),rT];exact e⟩
theorem sH {L:List Int} {i j n:Nat} (hi:i<n) (hj:j<n) (hn:n≤L.length) (h:Inj L n):Inj (sw L i j) n:=by
 intro a b ha hb e
 rw[iw L (by omega) (by omega),iw L (by omega) (by omega)] at e
 have:=h _ _ (qB hi hj ha) (qB hi hj hb) e
 have h2:=congrArg (sg i j) this
 rwa[rT,rT] at h2
def Hp (L:List Int) (n:Nat):Prop:=∀ k,0<k→k<n→at_ L ((k-1) / 2)≤at_ L k
theorem Hp.least {L:List Int} {n:Nat} (h:Hp L n):∀ k,k<n→at_ L 0≤at_ L k:=by
 intro k
 induction k using Nat.strongRecOn with
 |ind k ih=>
  intro hk
  by_cases e:k=0
  ·rw[e];exact Int.le_refl _
  ·exact Int.le_trans (ih ((k-1) / 2) (by omega) (by omega)) (h k (by omega) hk)
def UpI (L:List Int) (n j:Nat):Prop:=(∀ k,0<k→k<n→k≠j→at_ L ((k-1) / 2)≤at_ L k)∧(0<j→∀ k,0<k→k<n→(k-1) / 2=j→at_ L ((j-1) / 2)≤at_ L k)
theorem UpI.start {L:List Int} {n:Nat} (h:Hp L n):UpI L (n+1) n:=
 ⟨fun k h0 hk hn=>h k h0 (by omega),fun _ k h0 hk e=>by omega⟩
theorem UpI.stop {L:List Int} {n j:Nat} (h:UpI L n j) (hj:j=0∨at_ L ((j-1) / 2)≤at_ L j):Hp L n:=fun k h0 hk=>by
 by_cases e:k=j
 ·subst e
  rcases hj with e|e
  ·omega
  ·exact e
 ·exact h.1 k h0 hk e
theorem UpI.step {L:List Int} {n j:Nat} (h:UpI L n j) (h0:0<j) (hj:j<n) (hn:n≤L.length) (hl:at_ L j<at_ L ((j-1) / 2)):UpI (sw L ((j-1) / 2) j) n ((j-1) / 2):=by
 obtain⟨i,hi⟩:∃ i,i=(j-1) / 2:=⟨_,rfl⟩
 rw[← hi] at hl ⊢
 have hij:i<j:=by omega
 have hs:=iw L (show i<L.length by omega) (show j<L.length by omega)
 refine⟨fun k k0 kn ki=>?_,fun i0 k k0 kn ke=>?_⟩
 ·rw[hs,hs]
  by_cases e:k=j
  ·subst e
   rw[← hi]
   unfold sg
   rw[if_pos rfl,if_neg (by omega),if_pos rfl]
   omega
  ·have hk:sg i j k=k:=by unfold sg;rw[if_neg ki,if_neg e]
   rw[hk]
   by_cases e2:(k-1) / 2=i
   ·rw[e2]
    have h1:=h.1 k k0 kn e
    rw[e2] at h1
    unfold sg
    rw[if_pos rfl]
    omega
   ·by_cases e3:(k-1) / 2=j
    ·rw[e3]
     unfold sg
     rw[if_neg (by omega),if_pos rfl]
     have:=h.2 h0 k k0 kn e3
     rwa[← hi] at this
    ·have:sg i j ((k-1) / 2)=(k-1) / 2:=by unfold sg;rw[if_neg e2,if_neg e3]
     rw[this]
     exact h.1 k k0 kn e
 ·rw[hs,hs]
  have hp:sg i j ((i-1) / 2)=(i-1) / 2:=by unfold sg;rw[if_neg (by omega),if_neg (by omega)]
  rw[hp]
  have hpi:=h.1 i i0 (by omega) (by omega)
  by_cases e:k=j
  ·subst e
   unfold sg
   rw[if_neg (by omega),if_pos rfl]
   exact hpi
  ·have hk:sg i j k=k:=by unfold sg;rw[if_neg (by omega),if_neg e]
   rw[hk]
   have h1:=h.1 k k0 kn e
   rw[ke] at h1
   omega
def DnI (L:List Int) (n i:Nat):Prop:=(∀ k,0<k→k<n→(k-1) / 2≠i→at_ L ((k-1) / 2)≤at_ L k)∧(0<i→∀ k,0<k→k<n→(k-1) / 2=i→at_ L ((i-1) / 2)≤at_ L k)
theorem DnI.start {L:List Int} {n:Nat} (h:Hp L (n+1)) (hn:n<L.length):DnI (sw L 0 n) n 0:=by
 have hs:=iw L (show 0<L.length by omega) hn
 refine⟨fun k k0 kn ki=>?_,fun h0=>absurd h0 (Nat.lt_irrefl 0)⟩
 rw[hs,hs]
 have e1:sg 0 n k=k:=by unfold sg;rw[if_neg (by omega),if_neg (by omega)]
 have e2:sg 0 n ((k-1) / 2)=(k-1) / 2:=by unfold sg;rw[if_neg ki,if_neg (by omega)]
 rw[e1,e2]
 exact h k k0 (by omega)
theorem DnI.stop {L:List Int} {n i:Nat} (h:DnI L n i) (hi:∀ k,0<k→k<n→(k-1) / 2=i→at_ L i≤at_ L k):Hp L n:=fun k h0 hk=>by
 by_cases e:(k-1) / 2=i
 ·rw[e];exact hi k h0 hk e
 ·exact h.1 k h0 hk e
theorem DnI.step {L:List Int} {n i j:Nat} (h:DnI L n i) (hj:j<n) (h0:0<j) (hji:(j-1) / 2=i) (hn:n≤L.length) (hl:at_ L j<at_ L i) (hm:∀ k,0<k→k<n→(k-1) / 2=i→at_ L j≤at_ L k):DnI (sw L i j) n j:=by
 have hij:i<j:=by omega
 have hs:=iw L (show i<L.length by omega) (show j<L.length by omega)
 refine⟨fun k k0 kn ki=>?_,fun _ k k0 kn ke=>?_⟩
 ·rw[hs,hs]
  by_cases e2:(k-1) / 2=i
  ·rw[e2]
   have ei:sg i j i=j:=by unfold sg;rw[if_pos rfl]
   rw[ei]
   by_cases e:k=j
   ·subst e
    have:sg i k k=i:=by unfold sg;rw[if_neg (by omega),if_pos rfl]
    rw[this]
    omega
   ·have:sg i j k=k:=by unfold sg;rw[if_neg (by omega),if_neg e]
    rw[this]
    exact hm k k0 kn e2
  ·have e3:sg i j ((k-1) / 2)=(k-1) / 2:=by unfold sg;rw[if_neg e2,if_neg ki]
   rw[e3]
   by_cases e:k=i
   ·subst e
    have:sg k j k=j:=by unfold sg;rw[if_pos rfl]
    rw[this]
    exact h.2 k0 j h0 hj hji
   ·by_cases e4:k=j
    ·subst e4;exact absurd hji e2
    ·have:sg i j k=k:=by unfold sg;rw[if_neg e,if_neg e4]
     rw[this]
     exact h.1 k k0 kn e2
 ·rw[hs,hs,hji]
  have ei:sg i j i=j:=by unfold sg;rw[if_pos rfl]
  have ek:sg i j k=k:=by unfold sg;rw[if_neg (by omega),if_neg (by omega)]
  rw[ei,ek]
  have:=h.1 k k0 kn (by omega)
  rwa[ke] at this
end Hq
namespace Tj
set_option autoImplicit false
inductive Star (adj:Nat→List Nat) (a:Nat):Nat→Prop
 |refl:Star adj a a
 |on {b c:Nat}:Star adj a b→c∈adj b→Star adj a c
theorem Star.trans {adj:Nat→List Nat} {a b c:Nat} (h:Star adj a b) (g:Star adj b c):Star adj a c:=by
 induction g with
 |refl=>exact h
 |on _ hm ih=>exact .on ih hm
theorem Star.one {adj:Nat→List Nat} {a b:Nat} (h:b∈adj a):Star adj a b:=.on .refl h
def Sc (adj:Nat→List Nat) (a b:Nat):Prop:=Star adj a b∧Star adj b a
theorem Sc.refl (adj:Nat→List Nat) (a:Nat):Sc adj a a:=⟨.refl,.refl⟩
theorem Sc.symm {adj:Nat→List Nat} {a b:Nat} (h:Sc adj a b):Sc adj b a:=⟨h.2,h.1⟩
theorem Sc.trans {adj:Nat→List Nat} {a b c:Nat} (h:Sc adj a b) (g:Sc adj b c):Sc adj a c:=⟨h.1.trans g.1,g.2.trans h.2⟩
def upd {α:Type} (f:Nat→α) (j:Nat) (x:α):Nat→α:=fun v=>if v=j then x else f v
theorem upd_same {α:Type} (f:Nat→α) (j:Nat) (x:α):upd f j x j=x:=if_pos rfl
theorem upd_ne {α:Type} (f:Nat→α) {j v:Nat} (x:α) (h:v≠j):upd f j x v=f v:=if_neg h
def Owns (en:Nat→Nat) (path:List Nat) (p v:Nat):Prop:=p∈path∧en p≤en v∧∀ p',p'∈path→en p<en p'→en v<en p'
structure Inv (adj:Nat→List Nat) (n c:Nat) (en bk gn:Nat→Nat) (ls:Nat→Int) (path op:List Nat):Prop where
 lt:∀ v,v∈op→v<n
 ent:∀ v,v<n→(en v≠0↔v∈op∨0≤ls v)
 opn:∀ v,v∈op→ls v<0
 cnt:∀ v,v<n→en v≤c
 srt:op.Pairwise (fun a b=>en a<en b)
 sub:path.Sublist op
 head:op≠[]→path.head?=op.head?
 cls:∀ v,v<n→0≤ls v→∀ w,w∈adj v→0≤ls w
 lst:∀ v,v<n→0≤ls v→Sc adj v (ls v).toNat∧∀ w,Sc adj v w→(ls v).toNat≤w
 gle:∀ v,v<n→gn v≤(adj v).length
 new:∀ v,v<n→en v=0→gn v=0
 done:∀ v,v<n→en v≠0→v ∉ path→gn v=(adj v).length
 proc:∀ v,v<n→∀ k,k<gn v→en ((adj v).getD k 0)≠0
 ble:∀ v,v∈op→bk v≤en v
 bwit:∀ v,v∈op→∃ u,u∈op∧en u=bk v∧Star adj v u
 bleft:∀ v,v∈op→v ∉ path→bk v<en v
 reach:∀ p,p∈path→∀ v,v∈op→en p≤en v→Star adj p v
 link:∀ P q r R,path=P++q::r::R→gn q<(adj q).length∧(adj q).getD (gn q) 0=r
 low:∀ p v,Owns en path p v→v∈op→∀ k,k<gn v→(adj v).getD k 0∈op →
  bk p≤en ((adj v).getD k 0)∨(gn p<(adj p).length∧(adj p).getD (gn p) 0∈op∧en p<en ((adj p).getD (gn p) 0)∧en ((adj p).getD (gn p) 0)≤en v∧bk ((adj p).getD (gn p) 0)≤en ((adj v).getD k 0))
theorem kV {l:List Nat} {k:Nat} (h:k<l.length):l.getD k 0∈l:=by
 rw[List.getD_eq_getElem?_getD,List.getElem?_eq_getElem h]
 exact List.getElem_mem h
theorem nQ {l:List Nat} {x:Nat} (h:x∈l):∃ k,k<l.length∧l.getD k 0=x:=by
 obtain⟨k,hk,rfl⟩:=List.getElem_of_mem h
 exact⟨k,hk,by rw[List.getD_eq_getElem?_getD,List.getElem?_eq_getElem hk];rfl⟩
theorem jY {α:Type} {l m:List α} (h:l≠[]):(l++m).head?=l.head?:=by
 cases l with
 |nil=>exact absurd rfl h
 |cons a l=>rfl
section
variable {adj:Nat→List Nat} {n c:Nat} {en bk gn:Nat→Nat} {ls:Nat→Int} {path op:List Nat}
theorem Inv.pmem (h:Inv adj n c en bk gn ls path op) {p:Nat} (hp:p∈path):p∈op:=h.sub.subset hp
theorem Inv.enz (h:Inv adj n c en bk gn ls path op) {v:Nat} (hv:v∈op):en v≠0:=(h.ent v (h.lt v hv)).2 (.inl hv)
theorem Inv.top (h:Inv adj n c en bk gn ls path op) {P:List Nat} {i:Nat} (hp:path=P++[i]) {q:Nat} (hq:q∈path):q=i∨(q∈P∧en q<en i):=by
 have hs:=h.srt.sublist h.sub
 rw[hp,List.pairwise_append] at hs
 rw[hp,List.mem_append,List.mem_singleton] at hq
 rcases hq with hq|rfl
 ·exact .inr ⟨hq,hs.2.2 q hq i (by simp)⟩
 ·exact .inl rfl
theorem Inv.top_notin (h:Inv adj n c en bk gn ls path op) {P:List Nat} {i:Nat} (hp:path=P++[i]):i ∉ P:=by
 intro hi
 have hs:=h.srt.sublist h.sub
 rw[hp,List.pairwise_append] at hs
 have:=hs.2.2 i hi i (by simp)
 omega
theorem Inv.enter (h:Inv adj n c en bk gn ls path op) {j:Nat} (hj:j<n) (hn:en j=0) (hc:path=[]∨∃ P p,path=P++[p]∧gn p<(adj p).length∧(adj p).getD (gn p) 0=j) :
  Inv adj n (c+1) (upd en j (c+1)) (upd bk j (c+1)) gn ls (path++[j]) (op++[j]):=by
 have hjo:j ∉ op:=fun hm=>h.enz hm hn
 have hne:∀ v,v∈op→v≠j:=fun v hv e=>hjo (e ▸ hv)
 have hel:∀ v,v∈op→upd en j (c+1) v=en v:=fun v hv=>upd_ne _ _ (hne v hv)
 have hbl:∀ v,v∈op→upd bk j (c+1) v=bk v:=fun v hv=>upd_ne _ _ (hne v hv)
 have hlt:∀ v,v∈op→en v<c+1:=fun v hv=>Nat.lt_succ_of_le (h.cnt v (h.lt v hv))
 have hpe:path=[]→op=[]:=fun e=>by
  cases ho:op with
  |nil=>rfl
  |cons a l=>
   have:=h.head (by rw[ho];simp)
   rw[e,ho] at this
   simp at this
 have hlj:ls j<0:=by
  rcases Int.lt_or_le (ls j) 0 with k|k
  ·exact k
  ·exact absurd hn ((h.ent j hj).2 (.inr k))
 have hpr:∀ v,v<n→∀ k,k<gn v→(adj v).getD k 0≠j:=fun v hv k hk e=>h.proc v hv k hk (by rw[e];exact hn)
 refine { lt:=?_,ent:=?_,opn:=?_,cnt:=?_,srt:=?_,sub:=?_,head:=?_,cls:=h.cls,lst:=h.lst,gle:=h.gle,new:=?_,done:=?_,proc:=?_,ble:=?_,bwit:=?_,bleft:=?_,reach:=?_,link:=?_,low:=?_ }
 ·intro v hv
  rcases List.mem_append.1 hv with hv|hv
  ·exact h.lt v hv
  ·rw[List.mem_singleton.1 hv];exact hj
 ·intro v hv
  by_cases e:v=j
  ·subst e;rw[upd_same];simp
  ·rw[upd_ne _ _ e,h.ent v hv,List.mem_append,List.mem_singleton]
   simp[e]
 ·intro v hv
  rcases List.mem_append.1 hv with hv|hv
  ·exact h.opn v hv
  ·rw[List.mem_singleton.1 hv];exact hlj
 ·intro v hv
  by_cases e:v=j
  ·subst e;rw[upd_same];exact Nat.le_refl _
  ·rw[upd_ne _ _ e];have:=h.cnt v hv;omega
 ·rw[List.pairwise_append]
  refine⟨h.srt.imp_of_mem fun ha hb k=>by rw[hel _ ha,hel _ hb];exact k,by simp,fun a ha b hb=>?_⟩
  rw[List.mem_singleton.1 hb,hel a ha,upd_same]
  exact hlt a ha
 ·exact h.sub.append (List.Sublist.refl _)
 ·intro _
  by_cases e:op=[]
  ·have:path=[]:=by have:=h.sub;rw[e] at this;exact List.sublist_nil.1 this
   rw[e,this]
  ·have hp:path≠[]:=fun k=>e (hpe k)
   rw[jY hp,jY e,h.head e]
 ·intro v hv e
  by_cases k:v=j
  ·subst k;rw[upd_same] at e;omega
  ·rw[upd_ne _ _ k] at e;exact h.new v hv e
 ·intro v hv e hm
  rw[List.mem_append,List.mem_singleton,not_or] at hm
  rw[upd_ne _ _ hm.2] at e
  exact h.done v hv e hm.1
 ·intro v hv k hk
  rw[upd_ne _ _ (hpr v hv k hk)]
  exact h.proc v hv k hk
 ·intro v hv
  rcases List.mem_append.1 hv with hv|hv
  ·rw[hbl v hv,hel v hv];exact h.ble v hv
  ·rw[List.mem_singleton.1 hv,upd_same,upd_same];exact Nat.le_refl _
 ·intro v hv
  rcases List.mem_append.1 hv with hv|hv
  ·obtain⟨u,hu,e,hs⟩:=h.bwit v hv
   exact⟨u,List.mem_append_left _ hu,by rw[hbl v hv,hel u hu];exact e,hs⟩
  ·rw[List.mem_singleton.1 hv]
   exact⟨j,by simp,by rw[upd_same,upd_same],.refl⟩
 ·intro v hv hm
  rw[List.mem_append,List.mem_singleton,not_or] at hm
  rcases List.mem_append.1 hv with hv|hv
  ·rw[hbl v hv,hel v hv];exact h.bleft v hv hm.1
  ·exact absurd (List.mem_singleton.1 hv) hm.2
 ·intro p hp v hv hle
  rcases List.mem_append.1 hp with hp|hp
  ·have hpo:=h.pmem hp
   rcases List.mem_append.1 hv with hv|hv
   ·rw[hel p hpo,hel v hv] at hle;exact h.reach p hp v hv hle
   ·rw[List.mem_singleton.1 hv]
    rcases hc with e|⟨P,t,e,hg,ht⟩
    ·rw[e] at hp;cases hp
    ·have htp:t∈path:=by rw[e];simp
     have hpt:Star adj p t:=by
      rcases h.top e hp with rfl|⟨_,k⟩
      ·exact .refl
      ·exact h.reach p hp t (h.pmem htp) (Nat.le_of_lt k)
     exact .on hpt (by rw[← ht];exact kV hg)
  ·rw[List.mem_singleton.1 hp] at hle ⊢
   rcases List.mem_append.1 hv with hv|hv
   ·rw[upd_same,hel v hv] at hle;have:=hlt v hv;omega
   ·rw[List.mem_singleton.1 hv];exact .refl
 ·intro P q r R e
  rcases List.eq_nil_or_concat R with rfl|⟨R',z,rfl⟩
  ·have e':path++[j]=(P++[q])++[r]:=by rw[e];simp
   obtain⟨e1,e2⟩:=List.append_inj' e' rfl
   simp only[List.cons.injEq,and_true] at e2
   subst e2
   rcases hc with k|⟨P',p,k,hg,ht⟩
   ·rw[k] at e1;simp at e1
   ·rw[k] at e1
    obtain⟨_,e3⟩:=List.append_inj' e1 rfl
    simp only[List.cons.injEq,and_true] at e3
    subst e3
    exact⟨hg,ht⟩
  ·have e':path++[j]=(P++q::r::R')++[z]:=by rw[e];simp
   obtain⟨e1,_⟩:=List.append_inj' e' rfl
   exact h.link P q r R' e1
 ·intro p v ho hv k hk hw
  have hw':(adj v).getD k 0∈op:=by
   have hvn:v<n:=by
    rcases List.mem_append.1 hv with hv|hv
    ·exact h.lt v hv
    ·rw[List.mem_singleton.1 hv];exact hj
   rcases List.mem_append.1 hw with hw|hw
   ·exact hw
   ·exact absurd (List.mem_singleton.1 hw) (hpr v hvn k hk)
  rcases List.mem_append.1 hv with hv|hv
  ·obtain⟨h1,h2,h3⟩:=ho
   rcases List.mem_append.1 h1 with h1|h1
   ·have hpo:=h.pmem h1
    have ho':Owns en path p v:=⟨h1,by rw[hel p hpo,hel v hv] at h2;exact h2,fun p' hp' hlt'=>by
     have:=h3 p' (List.mem_append_left _ hp') (by rw[hel p hpo,hel p' (h.pmem hp')];exact hlt')
     rwa[hel v hv,hel p' (h.pmem hp')] at this⟩
    rw[hbl p hpo,hel _ hw',hel p hpo,hel v hv]
    rcases h.low p v ho' hv k hk hw' with k1|⟨k1,k2,k3,k4,k5⟩
    ·exact .inl k1
    ·exact .inr ⟨k1,List.mem_append_left _ k2,by rw[hel _ k2];exact k3,by rw[hel _ k2];exact k4,by rw[hbl _ k2];exact k5⟩
   ·rw[List.mem_singleton.1 h1,upd_same,hel v hv] at h2
    have:=hlt v hv
    omega
  ·rw[List.mem_singleton.1 hv,h.new j hj hn] at hk
   omega
theorem Inv.along (h:Inv adj n c en bk gn ls path op) {P:List Nat} {p:Nat} (hp:path=P++[p]) (hg:gn p<(adj p).length) (hx:en ((adj p).getD (gn p) 0)≠0) (hn:∀ v,v<n→∀ w,w∈adj v→w<n) :
  Inv adj n c en (upd bk p (if ls ((adj p).getD (gn p) 0)<0 then min (bk p) (bk ((adj p).getD (gn p) 0)) else bk p)) (upd gn p (gn p+1)) ls path op:=by
 obtain⟨x,hxe⟩:∃ x,x=(adj p).getD (gn p) 0:=⟨_,rfl⟩
 rw[← hxe] at hx ⊢
 have hpp:p∈path:=by rw[hp];simp
 have hpo:=h.pmem hpp
 have hpn:=h.lt p hpo
 have hxm:x∈adj p:=by rw[hxe];exact kV hg
 have hxn:=hn p hpn x hxm
 have hxo:ls x<0↔x∈op:=by
  constructor
  ·intro k
   rcases (h.ent x hxn).1 hx with k2|k2
   ·exact k2
   ·omega
  ·exact h.opn x
 obtain⟨b',hb'⟩:∃ b',b'=(if ls x<0 then min (bk p) (bk x) else bk p):=⟨_,rfl⟩
 rw[← hb']
 have hb1:b'≤bk p:=by rw[hb'];split<;>omega
 have hb2:x∈op→b'≤bk x:=fun k=>by rw[hb',if_pos (hxo.2 k)];omega
 have hb3:b'=bk p∨(x∈op∧b'=bk x):=by
  rw[hb']
  split
  ·rename_i k
   rcases Nat.le_total (bk p) (bk x) with k2|k2
   ·exact .inl (by omega)
   ·exact .inr ⟨hxo.1 k,by omega⟩
  ·exact .inl rfl
 refine { lt:=h.lt,ent:=h.ent,opn:=h.opn,cnt:=h.cnt,srt:=h.srt,sub:=h.sub,head:=h.head,cls:=h.cls,lst:=h.lst,gle:=?_,new:=?_,done:=?_,proc:=?_,ble:=?_,bwit:=?_,bleft:=?_,reach:=h.reach,link:=?_,low:=?_ }
 ·intro v hv
  by_cases e:v=p
  ·subst e;rw[upd_same];omega
  ·rw[upd_ne _ _ e];exact h.gle v hv
 ·intro v hv k
  have e:v≠p:=fun e=>h.enz hpo (e ▸ k)
  rw[upd_ne _ _ e];exact h.new v hv k
 ·intro v hv k hm
  have e:v≠p:=fun e=>hm (e ▸ hpp)
  rw[upd_ne _ _ e];exact h.done v hv k hm
 ·intro v hv k hk
  by_cases e:v=p
  ·subst e
   rw[upd_same] at hk
   rcases Nat.lt_or_ge k (gn v) with k1|k1
   ·exact h.proc v hv k k1
   ·have:k=gn v:=by omega
    rw[this,← hxe];exact hx
  ·rw[upd_ne _ _ e] at hk;exact h.proc v hv k hk
 ·intro v hv
  by_cases e:v=p
  ·subst e;rw[upd_same];have:=h.ble v hv;omega
  ·rw[upd_ne _ _ e];exact h.ble v hv
 ·intro v hv
  by_cases e:v=p
  ·subst e
   rw[upd_same]
   rcases hb3 with k|⟨k1,k2⟩
   ·rw[k];exact h.bwit v hv
   ·obtain⟨u,hu,e1,e2⟩:=h.bwit x k1
    exact⟨u,hu,by rw[e1,k2],(Star.one hxm).trans e2⟩
  ·rw[upd_ne _ _ e];exact h.bwit v hv
 ·intro v hv hm
  have e:v≠p:=fun e=>hm (e ▸ hpp)
  rw[upd_ne _ _ e];exact h.bleft v hv hm
 ·intro P' q r R e
  have hq:q≠p:=by
   intro e2
   subst e2
   have hs:=h.srt.sublist h.sub
   rw[hp] at e
   rcases List.eq_nil_or_concat R with rfl|⟨R',z,rfl⟩
   ·have e':P++[q]=(P'++[q])++[r]:=by rw[e];simp
    obtain⟨e1,e3⟩:=List.append_inj' e' rfl
    simp only[List.cons.injEq,and_true] at e3
    subst e3
    exact h.top_notin hp (by rw[e1];simp)
   ·have e':P++[q]=(P'++q::r::R')++[z]:=by rw[e];simp
    obtain⟨e1,_⟩:=List.append_inj' e' rfl
    exact h.top_notin hp (by rw[e1];simp)
  rw[upd_ne _ _ hq]
  exact h.link P' q r R e
 ·intro p' v ho hv k hk hw
  by_cases ep:p'=p
  ·subst ep
   rw[upd_same]
   left
   by_cases ev:v=p'
   ·subst ev
    rw[upd_same] at hk
    rcases Nat.lt_or_ge k (gn v) with k1|k1
    ·rcases h.low v v ho hv k k1 hw with k2|⟨_,k2,k3,k4,k5⟩
     ·omega
     ·omega
    ·have:k=gn v:=by omega
     rw[this,← hxe] at hw ⊢
     have:=h.ble x hw
     have:=hb2 hw
     omega
   ·rw[upd_ne _ _ ev] at hk
    rcases h.low p' v ho hv k hk hw with k2|⟨_,k2,_,_,k5⟩
    ·omega
    ·rw[← hxe] at k2 k5
     have:=hb2 k2
     omega
  ·rw[upd_ne _ _ ep,upd_ne _ _ ep]
   by_cases ev:v=p
   ·subst ev
    have h1:=h.top hp ho.1
    have h2:=ho.2.2 v hpp
    rcases h1 with e|⟨_,e⟩
    ·exact absurd e ep
    ·have:=h2 e;omega
   ·rw[upd_ne _ _ ev] at hk
    rcases h.low p' v ho hv k hk hw with k2|⟨k1,k2,k3,k4,k5⟩
    ·exact .inl k2
    ·have hne:(adj p').getD (gn p') 0≠p:=by
      intro e
      rw[e] at k3 k4
      have:=ho.2.2 p hpp k3
      omega
     exact .inr ⟨k1,k2,k3,k4,by rw[upd_ne _ _ hne];exact k5⟩
theorem Inv.leave (h:Inv adj n c en bk gn ls path op) {P:List Nat} {i:Nat} (hp:path=P++[i]) (hg:gn i=(adj i).length) (hb:bk i<en i):Inv adj n c en bk gn ls P op:=by
 have hip:i∈path:=by rw[hp];simp
 have hio:=h.pmem hip
 have hsub:P.Sublist path:=by rw[hp];exact List.sublist_append_left _ _
 have hPn:P≠[]:=by
  intro e
  obtain⟨u,hu,e1,_⟩:=h.bwit i hio
  have hh:=h.head (by intro k;rw[k] at hio;cases hio)
  rw[hp,e] at hh
  cases ho:op with
  |nil=>rw[ho] at hio;cases hio
  |cons a l=>
   rw[ho] at hh
   simp at hh
   subst hh
   have hs:=h.srt
   rw[ho,List.pairwise_cons] at hs
   rw[ho] at hu
   rcases List.mem_cons.1 hu with rfl|hu
   ·omega
   ·have:=hs.1 u hu;omega
 have hmem:∀ q,q∈P→q∈path:=fun q hq=>hsub.subset hq
 refine { lt:=h.lt,ent:=h.ent,opn:=h.opn,cnt:=h.cnt,srt:=h.srt,sub:=hsub.trans h.sub,head:=?_,cls:=h.cls,lst:=h.lst,gle:=h.gle,new:=h.new,done:=?_,proc:=h.proc,ble:=h.ble,bwit:=h.bwit,bleft:=?_,reach:=fun p hq=>h.reach p (hmem p hq),link:=?_,low:=?_ }
 ·intro ho
  rw[← h.head ho,hp,jY hPn]
 ·intro v hv e hm
  by_cases k:v=i
  ·rw[k];exact hg
  ·exact h.done v hv e (by rw[hp,List.mem_append,List.mem_singleton];rintro (k2|k2);exact hm k2;exact k k2)
 ·intro v hv hm
  by_cases k:v=i
  ·rw[k];exact hb
  ·exact h.bleft v hv (by rw[hp,List.mem_append,List.mem_singleton];rintro (k2|k2);exact hm k2;exact k k2)
 ·intro P' q r R e
  exact h.link P' q r (R++[i]) (by rw[hp,e];simp)
 ·intro p v ho hv k hk hw
  obtain⟨h1,h2,h3⟩:=ho
  have hpi:en p<en i:=by
   rcases h.top hp (hmem p h1) with e|⟨_,e⟩
   ·exact absurd h1 (e ▸ h.top_notin hp)
   ·exact e
  by_cases hvi:en v<en i
  · -- as it was
   have ho':Owns en path p v:=⟨hmem p h1,h2,fun p' hp' k1=>by
    rcases h.top hp hp' with e|⟨e,_⟩
    ·rw[e];exact hvi
    ·exact h3 p' e k1⟩
   exact h.low p v ho' hv k hk hw
  · -- i owned it: now it hangs behind the call of i
   have ho':Owns en path i v:=⟨hip,by omega,fun p' hp' k1=>by
    rcases h.top hp hp' with e|⟨_,e⟩
    ·rw[e] at k1;omega
    ·omega⟩
   have hk1:bk i≤en ((adj v).getD k 0):=by
    rcases h.low i v ho' hv k hk hw with k1|⟨k1,_⟩
    ·exact k1
    ·omega
   -- p is the one ahead of i on the path
   have hlast:∃ P',P=P'++[p]:=by
    rcases List.eq_nil_or_concat P with e|⟨P',q,e⟩
    ·exact absurd e hPn
    ·have e2:P=P'++[q]:=by rw[e];simp
     have hq:q∈P:=by rw[e2];simp
     have hqp:q=p:=by
      have hs:=(h.srt.sublist h.sub).sublist hsub
      rw[e2,List.pairwise_append] at hs
      rw[e2,List.mem_append,List.mem_singleton] at h1
      rcases h1 with h1|h1
      ·have k1:=hs.2.2 p h1 q (by simp)
       have k2:=h3 q hq k1
       rcases h.top hp (hmem q hq) with k3|⟨_,k3⟩
       ·rw[k3] at k2;omega
       ·omega
      ·exact h1.symm
     exact⟨P',by rw[e2,hqp]⟩
   obtain⟨P',e⟩:=hlast
   obtain⟨l1,l2⟩:=h.link P' p i [] (by rw[hp,e];simp)
   right
   rw[l2]
   exact⟨l1,hio,hpi,by omega,hk1⟩
theorem Inv.close (h:Inv adj n c en bk gn ls path op) {P:List Nat} {i:Nat} (hp:path=P++[i]) (hg:gn i=(adj i).length) (hb:¬ bk i<en i) (hn:∀ v,v<n→∀ w,w∈adj v→w<n) {O G:List Nat} (ho:op=O++i::G) (m:Nat) (hm:m∈i::G) (hml:∀ v,v∈i::G→m≤v) :
  Inv adj n c en bk gn (fun v=>if v∈i::G then (m:Int) else ls v) P O:=by
 have hip:i∈path:=by rw[hp];simp
 have hio:=h.pmem hip
 have hin:=h.lt i hio
 have hbe:bk i=en i:=by have:=h.ble i hio;omega
 have hsub:P.Sublist path:=by rw[hp];exact List.sublist_append_left _ _
 have hmem:∀ q,q∈P→q∈path:=fun q hq=>hsub.subset hq
 have hPi:∀ q,q∈P→en q<en i:=fun q hq=>by
  rcases h.top hp (hmem q hq) with e|⟨_,e⟩
  ·exact absurd hq (e ▸ h.top_notin hp)
  ·exact e
 have hs:=h.srt
 rw[ho,List.pairwise_append,List.pairwise_cons] at hs
 obtain⟨hsO,⟨hsi,_⟩,hsx⟩:=hs
 have hOi:∀ v,v∈O→en v<en i:=fun v hv=>hsx v hv i (by simp)
 have hOop:∀ v,v∈O→v∈op:=fun v hv=>by rw[ho];exact List.mem_append_left _ hv
 have hGop:∀ v,v∈i::G→v∈op:=fun v hv=>by rw[ho];exact List.mem_append_right _ hv
 have hGi:∀ v,v∈i::G→en i≤en v:=fun v hv=>by
  rcases List.mem_cons.1 hv with e|hv
  ·rw[e];exact Nat.le_refl _
  ·exact Nat.le_of_lt (hsi v hv)
 have hlow:∀ v,v∈op→en v<en i→v∈O:=fun v hv k=>by
  rw[ho,List.mem_append] at hv
  rcases hv with hv|hv
  ·exact hv
  ·have:=hGi v hv;omega
 have hhigh:∀ v,v∈op→en i≤en v→v∈i::G:=fun v hv k=>by
  rw[ho,List.mem_append] at hv
  rcases hv with hv|hv
  ·have:=hOi v hv;omega
  ·exact hv
 have hOG:∀ v,v∈O→v ∉ i::G:=fun v hv k=>by have:=hOi v hv;have:=hGi v k;omega
 -- all of the group but i itself have been left, and all their calls have been gone along
 have hgn:∀ v,v∈i::G→gn v=(adj v).length:=fun v hv=>by
  by_cases e:v=i
  ·rw[e];exact hg
  ·refine h.done v (h.lt v (hGop v hv)) (h.enz (hGop v hv)) fun k=>?_
   rcases h.top hp k with k2|⟨k2,_⟩
   ·exact e k2
   ·have:=hPi v k2;have:=hGi v hv;omega
 have howns:∀ v,v∈i::G→Owns en path i v:=fun v hv=>⟨hip,hGi v hv,fun p' hp' k=>by
  rcases h.top hp hp' with e|⟨_,e⟩
  ·rw[e] at k;omega
  ·omega⟩
 -- calls of the group's go to it or to closed ones
 have hstep:∀ v,v∈i::G→∀ w,w∈adj v→w∈i::G∨0≤ls w:=fun v hv w hw=>by
  have hvn:=h.lt v (hGop v hv)
  obtain⟨k,hk,e⟩:=nQ hw
  rw[← hgn v hv] at hk
  have hwe:=h.proc v hvn k hk
  rw[e] at hwe
  rcases (h.ent w (hn v hvn w hw)).1 hwe with hwo|hwc
  ·left
   rcases h.low i v (howns v hv) (hGop v hv) k hk (by rw[e];exact hwo) with k1|⟨k1,_⟩
   ·rw[e] at k1
    exact hhigh w hwo (by omega)
   ·omega
  ·exact .inr hwc
 have hclosed:∀ v w,Star adj v w→v<n→0≤ls v→w<n∧0≤ls w:=fun v w hw=>by
  induction hw with
  |refl=>exact fun a b=>⟨a,b⟩
  |on _ hm ih=>exact fun a b=>⟨hn _ (ih a b).1 _ hm,h.cls _ (ih a b).1 (ih a b).2 _ hm⟩
 have hstay:∀ v w,Star adj v w→v∈i::G→w∈i::G∨(w<n∧0≤ls w):=fun v w hw=>by
  induction hw with
  |refl=>exact fun a=>.inl a
  |on _ hm ih=>
   intro a
   rcases ih a with k|⟨k1,k2⟩
   ·rcases hstep _ k _ hm with k3|k3
    ·exact .inl k3
    ·exact .inr ⟨hn _ (h.lt _ (hGop _ k)) _ hm,k3⟩
   ·exact .inr ⟨hn _ k1 _ hm,h.cls _ k1 k2 _ hm⟩
 -- all of the group reach i
 have hback:∀ N v,en v≤N→v∈i::G→Star adj v i:=by
  intro N
  induction N with
  |zero=>intro v hv hG;have:=h.enz (hGop v hG);omega
  |succ N ih=>
   intro v hv hG
   by_cases e:v=i
   ·rw[e];exact .refl
   ·have hvp:v ∉ path:=fun k=>by
     rcases h.top hp k with k2|⟨k2,_⟩
     ·exact e k2
     ·have:=hPi v k2;have:=hGi v hG;omega
    have hlt:=h.bleft v (hGop v hG) hvp
    obtain⟨u,hu,e1,hvu⟩:=h.bwit v (hGop v hG)
    have huG:u∈i::G:=by
     rcases hstay v u hvu hG with k|⟨_,k⟩
     ·exact k
     ·have:=h.opn u hu;omega
    exact hvu.trans (ih u (by omega) huG)
 have hsc:∀ v w,v∈i::G→(w∈i::G↔Sc adj v w):=fun v w hv=>by
  constructor
  ·intro hw
   have h1:=h.reach i hip w (hGop w hw) (hGi w hw)
   have h2:=h.reach i hip v (hGop v hv) (hGi v hv)
   exact⟨(hback _ v (Nat.le_refl _) hv).trans h1,(hback _ w (Nat.le_refl _) hw).trans h2⟩
  ·rintro ⟨k1,k2⟩
   rcases hstay v w k1 hv with k|⟨k3,k4⟩
   ·exact k
   ·have:=(hclosed w v k2 k3 k4).2
    have:=h.opn v (hGop v hv)
    omega
 refine { lt:=fun v hv=>h.lt v (hOop v hv),ent:=?_,opn:=?_,cnt:=h.cnt,srt:=hsO,sub:=?_,head:=?_,cls:=?_,lst:=?_,gle:=h.gle,new:=h.new,done:=?_,proc:=h.proc,ble:=fun v hv=>h.ble v (hOop v hv),bwit:=?_,bleft:=?_,reach:=fun p hq v hv=>h.reach p (hmem p hq) v (hOop v hv),link:=?_,low:=?_ }
 ·intro v hv
  rw[h.ent v hv]
  show v∈op∨0≤ls v↔v∈O∨0≤(if v∈i::G then (m:Int) else ls v)
  by_cases k:v∈i::G
  ·rw[if_pos k]
   exact⟨fun _=>.inr (by omega),fun _=>.inl (hGop v k)⟩
  ·rw[if_neg k,ho,List.mem_append]
   exact⟨fun k2=>k2.elim (fun k3=>k3.elim .inl fun k4=>absurd k4 k) .inr,fun k2=>k2.elim (fun k3=>.inl (.inl k3)) .inr⟩
 ·intro v hv
  show (if v∈i::G then (m:Int) else ls v)<0
  rw[if_neg (hOG v hv)]
  exact h.opn v (hOop v hv)
 ·have e1:P=path.filter fun v=>en v<en i:=by
   rw[hp,List.filter_append,List.filter_eq_self.2 (fun q hq=>by simpa using hPi q hq)]
   simp
  have e2:O=op.filter fun v=>en v<en i:=by
   rw[ho,List.filter_append,List.filter_eq_self.2 (fun q hq=>by simpa using hOi q hq),List.filter_eq_nil_iff.2 (fun q hq=>by have:=hGi q hq;simp;omega)]
   simp
  rw[e1,e2]
  exact h.sub.filter _
 ·intro hO
  have hh:=h.head (by intro e;rw[e] at hio;cases hio)
  cases O with
  |nil=>exact absurd rfl hO
  |cons a l=>
   rw[ho] at hh
   cases P with
   |nil=>
    rw[hp] at hh
    simp at hh
    have:=hOi a (by simp)
    rw[hh] at this
    omega
   |cons b l2=>
    rw[hp] at hh
    simpa using hh
 ·intro v hv k w hw
  show 0≤(if w∈i::G then (m:Int) else ls w)
  have k':0≤(if v∈i::G then (m:Int) else ls v):=k
  by_cases kv:v∈i::G
  ·rcases hstep v kv w hw with k2|k2
   ·rw[if_pos k2];omega
   ·split
    ·omega
    ·exact k2
  ·rw[if_neg kv] at k'
   split
   ·omega
   ·exact h.cls v hv k' w hw
 ·intro v hv k
  have k':0≤(if v∈i::G then (m:Int) else ls v):=k
  show Sc adj v (if v∈i::G then (m:Int) else ls v).toNat∧∀ w,Sc adj v w→(if v∈i::G then (m:Int) else ls v).toNat≤w
  by_cases kv:v∈i::G
  ·rw[if_pos kv,Int.toNat_natCast]
   exact⟨(hsc v m kv).1 hm,fun w hw=>hml w ((hsc v w kv).2 hw)⟩
  ·rw[if_neg kv] at k' ⊢
   exact h.lst v hv k'
 ·intro v hv e hq
  by_cases k:v=i
  ·rw[k];exact hg
  ·exact h.done v hv e (by rw[hp,List.mem_append,List.mem_singleton];rintro (k2|k2);exact hq k2;exact k k2)
 ·intro v hv
  obtain⟨u,hu,e1,e2⟩:=h.bwit v (hOop v hv)
  refine⟨u,hlow u hu ?_,e1,e2⟩
  have:=h.ble v (hOop v hv)
  have:=hOi v hv
  omega
 ·intro v hv hq
  refine h.bleft v (hOop v hv) (by rw[hp,List.mem_append,List.mem_singleton];rintro (k2|k2);exact hq k2;rw[k2] at hv;have:=hOi i hv;omega)
 ·intro P' q r R e
  exact h.link P' q r (R++[i]) (by rw[hp,e];simp)
 ·intro p v hpv hv k hk hw
  obtain⟨h1,h2,h3⟩:=hpv
  have ho':Owns en path p v:=⟨hmem p h1,h2,fun p' hp' k1=>by
   rcases h.top hp hp' with e|⟨e,_⟩
   ·rw[e];exact hOi v hv
   ·exact h3 p' e k1⟩
  rcases h.low p v ho' (hOop v hv) k hk (hOop _ hw) with k1|⟨k1,k2,k3,k4,k5⟩
  ·exact .inl k1
  ·exact .inr ⟨k1,hlow _ k2 (by have:=hOi v hv;omega),k3,k4,k5⟩
theorem Inv.ended (h:Inv adj n c en bk gn ls [] op):op=[]:=by
 cases ho:op with
 |nil=>rfl
 |cons a l=>
  have:=h.head (by rw[ho];simp)
  rw[ho] at this
  simp at this
theorem Inv.least (h:Inv adj n c en bk gn ls [] op) (ha:∀ v,v<n→en v≠0) (v:Nat) (hv:v<n):0≤ls v∧Sc adj v (ls v).toNat∧∀ w,Sc adj v w→(ls v).toNat≤w:=by
 have hc:0≤ls v:=by
  rcases (h.ent v hv).1 (ha v hv) with k|k
  ·rw[h.ended] at k;cases k
  ·exact k
 exact⟨hc,h.lst v hv hc⟩
end
end Tj
end Go.Proofs.YtimoappbefindaaGreat
