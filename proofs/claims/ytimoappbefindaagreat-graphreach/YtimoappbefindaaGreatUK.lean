/-
  2 texts in one: what each proves stands at its head.
-/
import Derived.Test.YtimoappbefindaaGreatUI
import Derived.Test.YtimoappbefindaaGreatUv
import Derived.Test.YtimoappbefindaaGreatUH
import Derived.Laws.AppendOwn
namespace Go.Proofs.YtimoappbefindaaGreat
open Go.RowKit
set_option maxRecDepth 100000
inductive LsW (w:World) (A:Nat→Prop):List Ex→List Value→Prop
 |nil:LsW w A [] []
 |cons {x:Ex} {vs:List Value} {xs:List Ex} {cs:List Value}:ExW w A x vs→LsW w A xs cs→LsW w A (x::xs) (vs++cs)
theorem LsW.snoc {w:World} {A:Nat→Prop} {x:Ex} {vs:List Value} (hx:ExW w A x vs):∀ {xs:List Ex} {cs:List Value},LsW w A xs cs→LsW w A (xs++[x]) (cs++vs)
 |_,_,.nil=>by
  have:=LsW.cons hx LsW.nil
  simpa using this
 |_,_,.cons h hs=>by
  rw[List.append_assoc]
  exact .cons h (hs.snoc hx)
theorem LsW.keep {w w':World} {A:Nat→Prop} (hb:∀ b,A b→b<w.heap.size→w'.heap[b]?=w.heap[b]?):∀ {xs:List Ex} {cs:List Value},LsW w A xs cs→LsW w' A xs cs
 |_,_,.nil=>.nil
 |_,_,.cons h hs=>.cons (h.keep hb) (hs.keep hb)
theorem LsW.imp {w:World} {A A':Nat→Prop} (hb:∀ b,A b→b<w.heap.size→A' b):∀ {xs:List Ex} {cs:List Value},LsW w A xs cs→LsW w A' xs cs
 |_,_,.nil=>.nil
 |_,_,.cons h hs=>.cons (h.imp hb) (hs.imp hb)
theorem LsW.el {w:World} {A A':Nat→Prop} {g:Nat} (hg:A' g) (hA:∀ b,A b→A' b):∀ {xs:List Ex} {cs:List Value} (off:Nat),LsW w A xs cs→w.rangeAt g off cs→ElW w A' (some ⟨g,off,none⟩) xs
 |_,_,_,.nil,_=>.nil
 |_,_,off,.cons h hs,hr=>by
  have hl:=h.len
  refine .cons hg (fun j v hv=>hr j v ?_) (h.imp fun b hb _=>hA b hb) (hs.el hg hA (off+7) fun j v hv=>?_)
  ·rw[List.getElem?_append_left (List.getElem?_eq_some_iff.1 hv).1];exact hv
  ·have:=hr (7+j) v (by rw[List.getElem?_append_right (by omega),hl,show 7+j-7=j by omega];exact hv)
   rw[show off+7+j=off+(7+j) by omega]
   exact this
theorem Tryz.infoEx:(Tryz.prog.info? 58).map (fun i=>(i.zero,i.size,i.bytes))=some (some (.agg ez),7,96):=by kernel_rfl
theorem Tryz.underEs:Tryz.prog.underlying 56=some (.slice 58):=by kernel_rfl
structure Row (w:World) (B:Nat) (v:Value) (xs:List Ex):Prop where
 cs:∃ cs,w.ownsRow B 58 7 v xs.length cs∧LsW w (fun b=>B≤b∧v.ownBlock≠some b) xs cs
theorem Row.low {w:World} {B:Nat} {v:Value} {xs:List Ex} (h:Row w B v xs):∀ k,v.ownBlock=some k→B≤k∧k<w.heap.size:=by
 obtain⟨cs,h1,_⟩:=h.cs
 intro k hk
 rcases h1.2 with⟨rfl,_⟩|⟨g,cap,cur,rfl,h2,h3,_⟩
 ·simp[Value.ownBlock] at hk
 ·simp[Value.ownBlock] at hk
  subst hk
  refine⟨h2,?_⟩
  rcases Nat.lt_or_ge g w.heap.size with k|k
  ·exact k
  ·rw[Array.getElem?_eq_none k] at h3;cases h3
theorem Row.but {w w':World} {B R:Nat} {v:Value} {xs:List Ex} (h:Row w B v xs) (hU:But R w w') (hR:R<B):Row w' B v xs:=by
 have hlow:=h.low
 obtain⟨cs,h1,h2⟩:=h.cs
 refine⟨cs,⟨h1.1,?_⟩,h2.keep fun b hb hl=>hU.block b hl (by omega)⟩
 rcases h1.2 with h'|⟨g,cap,cur,rfl,h3,h4,h5⟩
 ·exact .inl h'
 ·refine .inr ⟨g,cap,cur,rfl,h3,?_,h5⟩
  rw[hU.block g (hlow g rfl).2 (by omega)]
  exact h4
theorem Row.up {w w':World} {B:Nat} {v:Value} {xs:List Ex} (h:Row w B v xs) (hb:Below w.heap.size w w'):Row w' B v xs:=by
 have hlow:=h.low
 obtain⟨cs,h1,h2⟩:=h.cs
 refine⟨cs,⟨h1.1,?_⟩,h2.keep fun b _ hl=>hb.block b hl⟩
 rcases h1.2 with h'|⟨g,cap,cur,rfl,h3,h4,h5⟩
 ·exact .inl h'
 ·refine .inr ⟨g,cap,cur,rfl,h3,?_,h5⟩
  rw[hb.block g (hlow g rfl).2]
  exact h4
theorem Row.el {w:World} {B:Nat} {v:Value} {xs:List Ex} (h:Row w B v xs):∃ ao c,v=.slice ao xs.length c∧ElV w B ao xs:=by
 obtain⟨cs,h1,h2⟩:=h.cs
 rcases h1.2 with⟨rfl,h0⟩|⟨g,cap,cur,rfl,h3,h4,_,_,h5,h6⟩
 ·have e:=List.length_eq_zero_iff.1 h0
  subst e
  exact⟨none,0,rfl,.nil⟩
 ·refine⟨some ⟨g,0,none⟩,cap,rfl,h2.el h3 (fun b hb=>hb.1) 0 fun j u hu=>?_⟩
  rw[Nat.zero_add,cell_of_row w g j _ _ _ h4]
  have hj:=(List.getElem?_eq_some_iff.1 hu).1
  have hl:=h1.1
  have e:cur[j]?=(cur.toList.take (xs.length*7))[j]?:=by rw[List.getElem?_take,if_pos (by omega)];simp
  rw[e,h6,hu]
theorem Row.app {w:World} {B:Nat} {v:Value} {xs:List Ex} {x:Ex} {x0 x1 x2 x3 x4 x5 x6:Value} (h:Row w B v xs) (hB:B≤w.heap.size) (hx:ExV w B x [x0,x1,x2,x3,x4,x5,x6]) (hxg:∀ b,v.ownBlock=some b→ExW w (fun c=>B≤c∧c≠b) x [x0,x1,x2,x3,x4,x5,x6]) (hl:xs.length≤10000000) :
  ∃ v' w',(Builtin.append_ #[56,56] 56 #[v,.slice (some ⟨w.heap.size,0,none⟩) 1 1]).run Tryz.prog (w.alloc (.cells #[x0,x1,x2,x3,x4,x5,x6] 58))=.ok v' w'∧Row w' B v' (xs++[x])∧Below B w w':=by
 obtain⟨i0,hi,hz0,hz1,hz2⟩:=info_parts Tryz.infoEx
 have hone:=hx.one
 have h2:=h.up (ae w (.cells #[x0,x1,x2,x3,x4,x5,x6] 58))
 have hlow:=h.low
 have hlow2:=h2.low
 have hBs:B≤(w.alloc (.cells #[x0,x1,x2,x3,x4,x5,x6] 58)).heap.size:=by simp;omega
 obtain⟨cs,ho,hls⟩:=h2.cs
 have hk:=Bk.new w 58 #[x0,x1,x2,x3,x4,x5,x6]
 have hnews:∀ j u,[x0,x1,x2,x3,x4,x5,x6][j]?=some u→(w.alloc (.cells #[x0,x1,x2,x3,x4,x5,x6] 58)).cell? ((⟨w.heap.size,0,none⟩:Addr).add j)=some u:=by
  intro j u hj
  rw[Addr.add_mid,Nat.zero_add,hk.cell]
  exact hj
 obtain⟨v',w',hr,ho',hgr,_⟩:=run_append_own (P:=Tryz.prog) _ B 56 56 58 i0 _ 7 96 Tryz.underEs hi hz0 hz1 hz2 rfl (by decide) v xs.length cs ho ⟨w.heap.size,0,none⟩ 1 1 [x0,x1,x2,x3,x4,x5,x6] rfl hnews hone (by unfold maxLen;omega) (by omega) hBs
 have hfresh:∀ b,v'.ownBlock=some b→v.ownBlock=some b∨w.heap.size<b:=by
  rcases ho.2 with⟨rfl,h0⟩|⟨g,cap,cur,rfl,hbg,hg,hnc,hcm,hcs,htake⟩
  ·have hr2:=run_append_nil (P:=Tryz.prog) (w.alloc (.cells #[x0,x1,x2,x3,x4,x5,x6] 58)) 56 56 58 i0 _ Tryz.underEs hi hz0 ⟨w.heap.size,0,none⟩ 1 1 [x0,x1,x2,x3,x4,x5,x6] (by rw[hz1];rfl) hnews (by omega) (by omega) (by rw[hz2];omega)
   rw[hr] at hr2
   cases hr2
   intro b hb
   simp[Value.ownBlock] at hb
   exact .inr (by omega)
  ·by_cases hroom:xs.length+1≤cap
   ·have hr2:=run_append_room (P:=Tryz.prog) (w.alloc (.cells #[x0,x1,x2,x3,x4,x5,x6] 58)) 56 56 58 i0 Tryz.underEs hi g xs.length cap cur hg ⟨w.heap.size,0,none⟩ 1 1 [x0,x1,x2,x3,x4,x5,x6] (by rw[hz1];rfl) hnews hone hroom (by rw[hz1,hcs];simp;omega)
    rw[hr] at hr2
    cases hr2
    intro b hb
    exact .inl hb
   ·have hr2:=run_append_grow (P:=Tryz.prog) (w.alloc (.cells #[x0,x1,x2,x3,x4,x5,x6] 58)) 56 56 58 i0 _ Tryz.underEs hi hz0 ⟨g,0,none⟩ xs.length cap cs (by rw[hz1];exact ho.1) (ho.cells (g:=g) rfl) ⟨w.heap.size,0,none⟩ 1 1 [x0,x1,x2,x3,x4,x5,x6] (by rw[hz1];rfl) hnews (by omega) (by omega) (growslice_fits (by omega) (by rw[hz2];omega))
    rw[hr] at hr2
    cases hr2
    intro b hb
    simp[Value.ownBlock] at hb
    exact .inr (by omega)
 refine⟨v',w',hr,?_,((ae w _).mono hB).trans ((Below.refl B _).grown hgr hBs fun k hk=>(hlow2 k hk).1)⟩
 refine⟨cs++[x0,x1,x2,x3,x4,x5,x6],by simpa using ho',?_⟩
 have hx1:ExW w (fun b=>B≤b∧v.ownBlock≠some b) x [x0,x1,x2,x3,x4,x5,x6]:=by
  cases hv:v.ownBlock with
  |none=>exact hx.imp fun b hb _=>⟨hb,by simp⟩
  |some g=>exact (hxg g hv).imp fun b hb _=>⟨hb.1,by simp;exact fun e=>hb.2 e.symm⟩
 obtain⟨cs0,ho0,hls0⟩:=h.cs
 have hls1:LsW w (fun b=>B≤b∧v.ownBlock≠some b) xs cs:=by
  have hl0:cs0=cs:=by
   rcases ho0.2 with⟨e1,h1⟩|⟨g1,c1,r1,e1,_,hg1,_,_,_,ht1⟩
   ·have a1:=ho0.1
    have a2:=ho.1
    rw[h1] at a1 a2
    have b1:cs0=[]:=List.length_eq_zero_iff.1 (by simpa using a1)
    have b2:cs=[]:=List.length_eq_zero_iff.1 (by simpa using a2)
    rw[b1,b2]
   ·rcases ho.2 with⟨e2,h2⟩|⟨g2,c2,r2,e2,_,hg2,_,_,_,ht2⟩
    ·rw[e1] at e2;cases e2
    ·rw[e1] at e2
     cases e2
     rw[Below.heap_alloc _ _ _ (hlow g1 (by rw[e1];rfl)).2] at hg2
     rw[hg1] at hg2
     cases hg2
     rw[← ht1,ht2]
  rw[← hl0]
  exact hls0
 have h5:=(hls1.snoc hx1).imp (A':=fun b=>(B≤b∧v'.ownBlock≠some b)∧v.ownBlock≠some b∧b<w.heap.size) fun b hb hl=>⟨⟨hb.1,fun e=>(hfresh b e).elim hb.2 (by omega)⟩,hb.2,hl⟩
 have h6:=h5.keep (w':=w') fun b hb hl=>by
  rw[hgr.block b (by simp;omega) (fun e=>hb.2.1 e.symm),Below.heap_alloc _ _ _ hl]
 exact h6.imp fun b hb _=>hb.1
theorem But.low {R:Nat} {a w w':World} (h:But R a w) (hb:Below a.heap.size w w'):But R a w':=
 ⟨hb.os.trans h.os,hb.tape.trans h.tape,hb.output.trans h.output,Nat.le_trans h.size hb.size,fun k hk hn=>(hb.block k hk).trans (h.block k hk hn)⟩
theorem dD {w:World} {B:Nat} {e ts:TypeId} {i0:TypeInfo} {z:Value} {size bytes:Nat} (hu:Tryz.prog.underlying ts=some (.slice e)) (hi:Tryz.prog.info? e=some i0) (hz0:i0.zero=some z) (hz1:i0.size=size) (hz2:i0.bytes=bytes)
  (hzs:z.cells.size=size) (hsz:0<size) {v:Value} {n:Nat} {cs:List Value} (ho:w.ownsRow B e size v n cs) (a:Addr) (news:List Value) (hl:news.length=size) (hnews:∀ j u,news[j]?=some u→w.cell? (a.add j)=some u)
  (h1:∀ u∈news,u.oneCell'=true) (hn:n≤10000000) (hby:bytes≤1000) (hB:B≤w.heap.size) :
  ∃ v' w',(Builtin.append_ #[ts,ts] ts #[v,.slice (some a) 1 1]).run Tryz.prog w=.ok v' w'∧w'.ownsRow B e size v' (n+1) (cs++news)∧w.grownBy w' v.ownBlock∧∀ b,v'.ownBlock=some b→v.ownBlock=some b∨w.heap.size≤b:=by
 have hmul:(n+1)*bytes≤140737488355328:=Nat.le_trans (Nat.mul_le_mul (Nat.succ_le_succ hn) hby) (by decide)
 have hml:n+1≤maxLen:=by unfold maxLen;omega
 obtain⟨v',w',hr,ho',hgr,_⟩:=run_append_own (P:=Tryz.prog) w B ts ts e i0 z size bytes hu hi hz0 hz1 hz2 hzs hsz v n cs ho a 1 1 news (by rw[hl,Nat.one_mul]) hnews h1 hml hmul hB
 refine⟨v',w',hr,ho',hgr,?_⟩
 subst hz1
 subst hz2
 rcases ho.2 with⟨rfl,h0⟩|⟨g,cap,cur,rfl,hbg,hg,hnc,hcm,hcs,htake⟩
 ·have hr2:=run_append_nil (P:=Tryz.prog) w ts ts e i0 _ hu hi hz0 a 1 1 news (by rw[hl,Nat.one_mul]) hnews (by omega) (by omega) (by omega)
  rw[hr] at hr2
  cases hr2
  intro b hb
  simp[Value.ownBlock] at hb
  exact .inr (by omega)
 ·by_cases hroom:n+1≤cap
  ·have hr2:=run_append_room (P:=Tryz.prog) w ts ts e i0 hu hi g n cap cur hg a 1 1 news (by rw[hl,Nat.one_mul]) hnews h1 hroom (by rw[hcs,hl,← Nat.succ_mul];exact Nat.mul_le_mul_right _ hroom)
   rw[hr] at hr2
   cases hr2
   intro b hb
   exact .inl hb
  ·have hr2:=run_append_grow (P:=Tryz.prog) w ts ts e i0 _ hu hi hz0 ⟨g,0,none⟩ n cap cs ho.1 (ho.cells (g:=g) rfl) a 1 1 news (by rw[hl,Nat.one_mul]) hnews (by omega) (by omega) (growslice_fits (by omega) hmul)
   rw[hr] at hr2
   cases hr2
   intro b hb
   simp[Value.ownBlock] at hb
   exact .inr (by omega)
theorem aN {w:World} {B:Nat} {e:TypeId} {size:Nat} {v:Value} {n:Nat} {xs:List Value} (h:w.ownsRow B e size v n xs):∀ k,v.ownBlock=some k→B≤k∧k<w.heap.size:=by
 intro k hk
 rcases h.2 with⟨rfl,_⟩|⟨g,cap,cur,rfl,h2,h3,_⟩
 ·simp[Value.ownBlock] at hk
 ·simp[Value.ownBlock] at hk
  subst hk
  refine⟨h2,?_⟩
  rcases Nat.lt_or_ge g w.heap.size with j|j
  ·exact j
  ·rw[Array.getElem?_eq_none j] at h3;cases h3
theorem bu {w w':World} {B:Nat} {e:TypeId} {size:Nat} {v:Value} {n:Nat} {xs:List Value} (h:w.ownsRow B e size v n xs) (hk:∀ b,v.ownBlock=some b→w'.heap[b]?=w.heap[b]?):w'.ownsRow B e size v n xs:=by
 refine⟨h.1,?_⟩
 rcases h.2 with h'|⟨g,cap,cur,rfl,h2,h3,h4⟩
 ·exact .inl h'
 ·refine .inr ⟨g,cap,cur,rfl,h2,?_,h4⟩
  rw[hk g rfl]
  exact h3
structure Hs (w:World) (B:Nat) (v3 v4:Value) (hs:List Ex) (ss:List Mk):Prop where
 cs:∃ cs,w.ownsRow B 58 7 v3 hs.length cs∧LsW w (fun b=>B≤b∧v3.ownBlock≠some b∧v4.ownBlock≠some b) hs cs
 sg:w.ownsRow B 135 4 v4 ss.length (mksC ss)
 ne:∀ b,v3.ownBlock=some b→v4.ownBlock≠some b
theorem Hs.nil (w:World) (B:Nat):Hs w B (.slice none 0 0) (.slice none 0 0) [] []:=
 ⟨⟨[],⟨rfl,.inl ⟨rfl,rfl⟩⟩,.nil⟩,⟨rfl,.inl ⟨rfl,rfl⟩⟩,fun b h=>by simp[Value.ownBlock] at h⟩
theorem Hs.keep {w w':World} {B:Nat} {v3 v4:Value} {hs:List Ex} {ss:List Mk} (h:Hs w B v3 v4 hs ss) (hk:∀ b,B≤b→b<w.heap.size→w'.heap[b]?=w.heap[b]?):Hs w' B v3 v4 hs ss:=by
 obtain⟨⟨cs,h1,h2⟩,h3,h4⟩:=h
 exact⟨⟨cs,bu h1 fun b hb=>hk b (aN h1 b hb).1 (aN h1 b hb).2,h2.keep fun b hb hl=>hk b hb.1 hl⟩,bu h3 fun b hb=>hk b (aN h3 b hb).1 (aN h3 b hb).2,h4⟩
theorem ownsRow_cells {w:World} {B:Nat} {e:TypeId} {size:Nat} {v:Value} {n:Nat} {xs ys:List Value} (h:w.ownsRow B e size v n xs) {w':World} (h':w'.ownsRow B e size v n ys) (hk:∀ b,v.ownBlock=some b→w'.heap[b]?=w.heap[b]?):ys=xs:=by
 rcases h.2 with⟨e1,h1⟩|⟨g1,c1,r1,e1,_,hg1,_,_,_,ht1⟩
 ·have a1:=h.1
  have a2:=h'.1
  rw[h1,Nat.zero_mul] at a1 a2
  rw[List.length_eq_zero_iff.1 a1,List.length_eq_zero_iff.1 a2]
 ·rcases h'.2 with⟨e2,h2⟩|⟨g2,c2,r2,e2,_,hg2,_,_,_,ht2⟩
  ·rw[e1] at e2;cases e2
  ·rw[e1] at e2
   cases e2
   rw[hk g1 (by rw[e1];rfl),hg1] at hg2
   cases hg2
   rw[← ht1,ht2]
end Go.Proofs.YtimoappbefindaaGreat
