/-
  1 texts in one: what each proves stands at its head.
-/
import Derived.Test.YtimoappbefindaaGreatUkb
import Derived.Test.YtimoappbefindaaGreatUq
import Derived.Test.YtimoappbefindaaGreatShi
namespace Go.Proofs.YtimoappbefindaaGreat
open Go.RowKit Go.Maps Go.Sort Go.Shelf
set_option maxRecDepth 100000
def fB (l o:List (List UInt8)):Prop:=o.Pairwise (·<·)∧∀ x,x∈o↔x∈l
theorem fB.nodup {l o:List (List UInt8)} (h:fB l o):o.Nodup:=h.1.imp fun {a b} hab e=>by subst e;exact List.lt_irrefl a hab
theorem OwN.upp {w w':World} {B:Nat} {v:Value} {xs:List (List UInt8)} (h:OwN w B v xs) (hb:Below w.heap.size w w'):OwN w' B v xs:=
 bi h fun b hk=>hb.block b (aR h b hk).2
end Go.Proofs.YtimoappbefindaaGreat
