/-
  2 texts in one: what each proves stands at its head.
-/
import Derived.Test.YtimoappbefindaaGreatUl
namespace Go.Proofs.YtimoappbefindaaGreat
open Go.RowKit Go.Maps
set_option maxRecDepth 100000
theorem sD {w:World} {t:TypeId} {s:List UInt8} {g:Nat} (h:Bk w g t [.string (bs s)]):Ns w (some ⟨g,0,none⟩) [s]:=fun j x hj=>by
 have hj0:=(List.getElem?_eq_some_iff.1 hj).1
 have:j=0:=by simpa using hj0
 subst this
 cases hj
 exact⟨g,0,rfl,h.cell 0⟩
end Go.Proofs.YtimoappbefindaaGreat
