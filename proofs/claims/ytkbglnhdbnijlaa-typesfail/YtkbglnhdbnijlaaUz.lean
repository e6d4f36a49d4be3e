/-
  1 texts in one: what each proves stands at its head.
-/
import Derived.Test.YtkbglnhdbnijlaaTr
import Derived.Test.YtkbglnhdbnijlaaUq
import Derived.Test.YtkbglnhdbnijlaaUu
namespace Go.Proofs.Ytkbglnhdbnijlaa
open Go.RowKit
set_option maxRecDepth 100000
def paL (qs:List Pa):List Value:=qs.flatMap paC
theorem paL_cons (q:Pa) (qs:List Pa):paL (q::qs)=paC q++paL qs:=by simp[paL]
theorem paL_len:∀ qs:List Pa,(paL qs).length=qs.length*3
 |[]=>rfl
 |q::qs=>by rw[paL_cons,List.length_append,paL_len qs,List.length_cons];simp[paC];omega
theorem paL_get:∀ (qs:List Pa) (k j:Nat) (v:Value),k<qs.length→(paC (qs.getD k pa0))[j]?=some v→(paL qs)[k*3+j]?=some v
 |[],k,_,_,hk,_=>by simp at hk
 |q::qs,0,j,v,_,h=>by
  rw[List.getD_cons_zero] at h
  have hj:=(List.getElem?_eq_some_iff.1 h).1
  rw[paL_cons,Nat.zero_mul,Nat.zero_add,List.getElem?_append_left hj]
  exact h
 |q::qs,k+1,j,v,hk,h=>by
  rw[List.getD_cons_succ] at h
  rw[paL_cons,List.getElem?_append_right (by simp[paC];omega),show (k+1)*3+j-(paC q).length=k*3+j by simp[paC];omega]
  exact paL_get qs k j v (by simpa using hk) h
def PaO (w:World) (B:Nat) (v:Value) (qs:List Pa):Prop:=w.ownsRow B 47 3 v qs.length (paL qs)
theorem PaW.up {w w':World} {ao:Option Addr} {qs:List Pa} (h:PaW w ao qs) (hb:Below w.heap.size w w'):PaW w' ao qs:=fun hne=>by
 obtain⟨b,off,e,hr⟩:=h hne
 refine⟨b,off,e,fun i hi=>?_⟩
 have h0:=hr i hi 0 _ rfl
 intro j v hj
 rw[← hr i hi j v hj]
 exact World.cell?_of_block (hb.block b (cell_lt h0))
theorem PaO.row {w:World} {B:Nat} {v:Value} {qs:List Pa} (h:PaO w B v qs) (hne:0<qs.length):∃ g cap,v=.slice (some ⟨g,0,none⟩) qs.length cap∧qs.length≤cap∧cap≤maxLen∧∀ k,k<qs.length→w.rangeAt g (k*3) (paC (qs.getD k pa0)):=by
 rcases h.2 with⟨rfl,h0⟩|⟨g,c,cur,rfl,hb,hg,h1,h2,h3,h4⟩
 ·omega
 ·refine⟨g,c,rfl,h1,h2,fun k hk j v hj=>?_⟩
  have hp:=paL_get qs k j v hk hj
  have hl:k*3+j<(paL qs).length:=(List.getElem?_eq_some_iff.1 hp).1
  have h5:(cur.toList.take (qs.length*3))[k*3+j]?=some v:=by rw[h4];exact hp
  rw[List.getElem?_take_of_lt (by rw[← paL_len];exact hl)] at h5
  unfold World.cell?
  simp only[hg]
  simpa using h5
end Go.Proofs.Ytkbglnhdbnijlaa
