/-
  1 texts in one: what each proves stands at its head.
-/
import Derived.Test.YtimoappbefindaaGreatUkb
import Derived.Test.YtimoappbefindaaGreatUq
import Derived.Test.YtimoappbefindaaGreatShi
import Derived.Sort.Walk0
import Derived.BigQuiet
namespace Go.Proofs.YtimoappbefindaaGreat
open Go.RowKit Go.Maps
set_option maxRecDepth 100000
theorem OwN.set {w:World} {B:Nat} {v:Value} {xs:List (List UInt8)} (h:OwN w B v xs) {j:Nat} (hj:j<xs.length) (s:List UInt8) :
  ∃ g c,v=.slice (some ⟨g,0,none⟩) xs.length c∧B≤g∧g<w.heap.size∧w.frozen? ⟨g,j,none⟩=false∧w.cell? ⟨g,j,none⟩=some (.string (bs (xs.getD j [])))∧OwN (w.setCell ⟨g,j,none⟩ (.string (bs s))) B v (xs.set j s)∧Oth g w (w.setCell ⟨g,j,none⟩ (.string (bs s))):=by
 rcases h.2 with⟨_,h0⟩|⟨g,c,cur,rfl,hb,hg,h1,h2,h3,h4⟩
 ·omega
 ·have hB:Bk w g 9 cur.toList:=by unfold Bk;rw[Array.toArray_toList];exact hg
  have hc:=hB.cell j
  have h5:(cur.toList.take (xs.length*1))[j]?=some (.string (bs (xs.getD j []))):=by
   rw[h4,List.getElem?_map,List.getElem?_eq_getElem hj,List.getD_eq_getElem?_getD,List.getElem?_eq_getElem hj]
   rfl
  rw[List.getElem?_take_of_lt (by omega)] at h5
  refine⟨g,c,rfl,hb,hB.lt,hB.frz j,hc.trans h5,⟨by simp,.inr ⟨g,c,(cur.toList.set j (.string (bs s))).toArray,by rw[List.length_set],hb,hB.set j _,by rw[List.length_set];exact h1,h2,by simp;omega,?_⟩⟩,(Oth.refl g w).set j _⟩
  rw[List.length_set,List.toList_toArray,List.take_set,h4,List.map_set]
theorem OwN.put {w:World} {B g n c:Nat} {xs:List (List UInt8)} (h:OwN w B (.slice (some ⟨g,0,none⟩) n c) xs) {j:Nat} (hj:j<xs.length) (s:List UInt8) :
  w.frozen? ⟨g,j,none⟩=false∧w.cell? ⟨g,j,none⟩=some (.string (bs (xs.getD j [])))∧OwN (w.setCell ⟨g,j,none⟩ (.string (bs s))) B (.slice (some ⟨g,0,none⟩) n c) (xs.set j s)∧Below B w (w.setCell ⟨g,j,none⟩ (.string (bs s))):=by
 obtain⟨g',c',e,h1,h2,h3,h4,h5,h6⟩:=h.set hj s
 cases e
 exact⟨h3,h4,h5,h6.below h1⟩
end Go.Proofs.YtimoappbefindaaGreat
