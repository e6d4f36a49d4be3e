/-
  3 texts in one: what each proves stands at its head.
-/
import Derived.Test.YtkbglnhdbnijlaaUp
namespace Go.Proofs.Ytkbglnhdbnijlaa
open Go.RowKit Go.Maps
set_option maxRecDepth 100000
def hdN (gs:List Fn1) (s:List UInt8):Int:=match gs.findIdx? (fun g=>g.name==s) with|some i=>i|none=>-1
theorem hdN_at {gs:List Fn1} {s:List UInt8} {k:Nat} (hk:k<gs.length) (h:∀ j,j<k→¬ (gs.getD j fd).name=s) (e:(gs.getD k fd).name=s):hdN gs s=k:=by
 have hf:gs.findIdx? (fun g=>g.name==s)=some k:=by
  rw[List.findIdx?_eq_some_iff_getElem]
  refine⟨hk,?_,fun j hj=>?_⟩
  ·rw[List.getD_eq_getElem?_getD,List.getElem?_eq_getElem hk] at e
   simpa using e
  ·have:=h j hj
   rw[List.getD_eq_getElem?_getD,List.getElem?_eq_getElem (by omega)] at this
   simpa using this
 unfold hdN
 rw[hf]
end Go.Proofs.Ytkbglnhdbnijlaa
namespace Go.Proofs.Ytkbglnhdbnijlaa
open Go.RowKit Go.Maps
set_option maxRecDepth 100000
def OwN (w:World) (B:Nat) (v:Value) (ws:List (List UInt8)):Prop:=w.ownsRow B 9 1 v ws.length (ws.map fun s=>.string (bs s))
theorem own_low {w:World} {B n size:Nat} {e:TypeId} {v:Value} {xs:List Value} (h:w.ownsRow B e size v n xs):∀ j,v.ownBlock=some j→B≤j:=by
 rcases h.2 with⟨rfl,_⟩|⟨g,c,cur,rfl,hb,_⟩
 ·intro j hj;cases hj
 ·intro j hj;cases hj;exact hb
theorem OwN.names {w:World} {B:Nat} {v:Value} {ws:List (List UInt8)} (h:OwN w B v ws):∃ ao cap,v=.slice ao ws.length cap∧Ns w ao ws∧(ao=none→cap=0)∧∀ g off,ao=some ⟨g,off,none⟩→B≤g:=by
 rcases h.2 with⟨rfl,h0⟩|⟨g,c,cur,rfl,hb,hg,h1,h2,h3,h4⟩
 ·have e:=List.length_eq_zero_iff.1 h0
  subst e
  exact⟨none,0,rfl,.nil _ _,fun _=>rfl,fun g off e=>by cases e⟩
 ·refine⟨_,c,rfl,fun j s hj=>⟨g,0,rfl,?_⟩,fun e=>(by cases e),fun g' off e=>by cases e;exact hb⟩
  have hl:j<ws.length:=(List.getElem?_eq_some_iff.1 hj).1
  have h5:(cur.toList.take (ws.length*1))[j]?=some (.string (bs s)):=by rw[h4,List.getElem?_map,hj];rfl
  rw[List.getElem?_take_of_lt (by omega)] at h5
  rw[Nat.zero_add]
  unfold World.cell?
  simp only[hg]
  simpa using h5
theorem Ns.none {w:World} {xs:List (List UInt8)} (h:Ns w none xs):xs=[]:=by
 cases xs with
 |nil=>rfl
 |cons x xs=>obtain⟨g,off,e,_⟩:=h 0 x rfl;cases e
end Go.Proofs.Ytkbglnhdbnijlaa
namespace Go.Proofs.Ytkbglnhdbnijlaa
open Go.RowKit Go.Maps
set_option maxRecDepth 100000
def snC (w:World) (A:Nat→Prop):List (Ex × Bool)→List Value→Prop
 |[],cs=>cs=[]
 |y::ys,cs=>∃ us ds,cs=us++(.bool y.2::ds)∧ExW w A y.1 us∧snC w A ys ds
theorem snC_len {w:World} {A:Nat→Prop}:∀ {ys:List (Ex × Bool)} {cs:List Value},snC w A ys cs→cs.length=ys.length*8
 |[],_,h=>by cases h;rfl
 |y::ys,cs,h=>by
  obtain⟨us,es,rfl,h1,h2⟩:=h
  have:=snC_len h2
  have:=h1.len
  simp only[List.length_append,List.length_cons]
  omega
theorem snC_keep {w w':World} {A:Nat→Prop} (hk:∀ b,A b→b<w.heap.size→w'.heap[b]?=w.heap[b]?):∀ {ys:List (Ex × Bool)} {cs:List Value},snC w A ys cs→snC w' A ys cs
 |[],_,h=>h
 |y::ys,cs,h=>by
  obtain⟨us,es,rfl,h1,h2⟩:=h
  exact⟨us,es,rfl,h1.keep hk,snC_keep hk h2⟩
def SnW (w:World) (A:Nat→Prop) (B:Nat) (v:Value) (ys:List (Ex × Bool)):Prop:=∃ cs,w.ownsRow B 97 8 v ys.length cs∧snC w A ys cs
theorem SnW.nil (w:World) (A:Nat→Prop) (B:Nat):SnW w A B (.slice none 0 0) []:=⟨[],World.ownsRow_nil _ _ _ _,rfl⟩
theorem SnW.row {w:World} {A:Nat→Prop} {B:Nat} {v:Value} {ys:List (Ex × Bool)} (h:SnW w A B v ys):∃ ao cap,v=.slice ao ys.length cap∧((ao=none∧cap=0∧ys=[])∨∃ g ds,ao=some ⟨g,0,none⟩∧B≤g∧g<w.heap.size∧snC w A ys ds∧∀ j u,ds[j]?=some u→w.cell? ⟨g,j,none⟩=some u):=by
 obtain⟨cs,ho,hc⟩:=h
 rcases ho.2 with⟨rfl,h0⟩|⟨g,c,cur,rfl,hb,hg,h1,h2,h3,h4⟩
 ·have e:=List.length_eq_zero_iff.1 h0
  subst e
  exact⟨none,0,rfl,.inl ⟨rfl,rfl,rfl⟩⟩
 ·refine⟨_,c,rfl,.inr ⟨g,cs,rfl,hb,(Array.getElem?_eq_some_iff.1 hg).1,hc,fun j u hj=>?_⟩⟩
  have hl:j<cs.length:=(List.getElem?_eq_some_iff.1 hj).1
  have h5:(cur.toList.take (ys.length*8))[j]?=some u:=by rw[h4];exact hj
  rw[List.getElem?_take_of_lt (by rw[← snC_len hc];exact hl)] at h5
  unfold World.cell?
  simp only[hg]
  simpa using h5
end Go.Proofs.Ytkbglnhdbnijlaa
