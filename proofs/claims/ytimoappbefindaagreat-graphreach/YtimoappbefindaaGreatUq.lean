/-
  3 texts in one: what each proves stands at its head.
-/
import Derived.Test.YtimoappbefindaaGreatUo
namespace Go.Proofs.YtimoappbefindaaGreat
open Go.RowKit Go.Maps
set_option maxRecDepth 100000
def OwN (w:World) (B:Nat) (v:Value) (ws:List (List UInt8)):Prop:=w.ownsRow B 9 1 v ws.length (ws.map fun s=>.string (bs s))
theorem Ns.none {w:World} {xs:List (List UInt8)} (h:Ns w none xs):xs=[]:=by
 cases xs with
 |nil=>rfl
 |cons x xs=>obtain⟨g,off,e,_⟩:=h 0 x rfl;cases e
def snC (w:World) (A:Nat→Prop):List (Ex × Bool)→List Value→Prop
 |[],cs=>cs=[]
 |y::ys,cs=>∃ us ds,cs=us++(.bool y.2::ds)∧ExW w A y.1 us∧snC w A ys ds
theorem mY {w:World} {A:Nat→Prop}:∀ {ys:List (Ex × Bool)} {cs:List Value},snC w A ys cs→cs.length=ys.length*8
 |[],_,h=>by cases h;rfl
 |y::ys,cs,h=>by
  obtain⟨us,es,rfl,h1,h2⟩:=h
  have:=mY h2
  have:=h1.len
  simp only[List.length_append,List.length_cons]
  omega
def SnW (w:World) (A:Nat→Prop) (B:Nat) (v:Value) (ys:List (Ex × Bool)):Prop:=∃ cs,w.ownsRow B 146 8 v ys.length cs∧snC w A ys cs
theorem SnW.nil (w:World) (A:Nat→Prop) (B:Nat):SnW w A B (.slice none 0 0) []:=⟨[],World.ownsRow_nil _ _ _ _,rfl⟩
theorem SnW.row {w:World} {A:Nat→Prop} {B:Nat} {v:Value} {ys:List (Ex × Bool)} (h:SnW w A B v ys):∃ ao cap,v=.slice ao ys.length cap∧((ao=none∧cap=0∧ys=[])∨∃ g ds,ao=some ⟨g,0,none⟩∧B≤g∧g<w.heap.size∧snC w A ys ds∧∀ j u,ds[j]?=some u→w.cell? ⟨g,j,none⟩=some u):=by
 obtain⟨cs,ho,hc⟩:=h
 rcases ho.2 with⟨rfl,h0⟩|⟨g,c,cur,rfl,hb,hg,h1,h2,h3,h4⟩
 ·have e:=List.length_eq_zero_iff.1 h0
  subst e
  exact⟨none,0,rfl,.inl ⟨rfl,rfl,rfl⟩⟩
 ·refine⟨_,c,rfl,.inr ⟨g,cs,rfl,hb,(Array.getElem?_eq_some_iff.1 hg).1,hc,fun j u hj=>?_⟩⟩
  have hl:j<cs.length:=(List.getElem?_eq_some_iff.1 hj).1
  have h5:(cur.toList.take (ys.length*8))[j]?=some u:=by rw[h4];exact hj
  rw[List.getElem?_take_of_lt (by rw[← mY hc];exact hl)] at h5
  unfold World.cell?
  simp only[hg]
  simpa using h5
end Go.Proofs.YtimoappbefindaaGreat
