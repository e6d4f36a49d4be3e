/-
  The document's faults: all faults of a program's names.
-/
import Derived.Test.YtkbglnhdbnijlaaUr
import Derived.Deep.DeepCutAuto
import Derived.BigQuiet
namespace Go.Proofs.Ytkbglnhdbnijlaa
open Go.RowKit Go.Maps
set_option maxRecDepth 100000
theorem FtW.up {w w':World} {B:Nat} {v:Value} {fs:List (Int × Int)} (h:FtW w B v fs) (hb:Below w.heap.size w w'):FtW w' B v fs:=owns_keep h fun b hk=>hb.block b (owns_has h b hk).2
theorem OwN.up {w w':World} {B:Nat} {v:Value} {ws:List (List UInt8)} (h:OwN w B v ws) (hb:Below w.heap.size w w'):OwN w' B v ws:=owns_keep h fun b hk=>hb.block b (owns_has h b hk).2
theorem PlW.has {w:World} {A:Nat→Prop} {g j:Nat} {ps:List Pm} (h:PlW w A (some ⟨g,0,none⟩) ps) (hj:j<ps.length):A g∧g<w.heap.size:=by
 rcases h with h|⟨g',e,ha,hl,_⟩
 ·rw[h] at hj;simp at hj
 ·cases e;exact⟨ha,hl⟩
end Go.Proofs.Ytkbglnhdbnijlaa
