/-
  3 texts in one: what each proves stands at its head.
-/
import Derived.Test.YtimoappbefindaaGreatUl
namespace Go.Proofs.YtimoappbefindaaGreat
open Go.RowKit Go.Maps
set_option maxRecDepth 100000
def Tn (w:World) (b n:Nat) (tf:List UInt8→Int):Prop:=∃ f,MapW Tryz.prog 9 w b n f∧∀ s,(f s).getD (.int .i64 0)=.int .i64 (tf s)
theorem Tn.lt {w:World} {b n:Nat} {tf:List UInt8→Int} (h:Tn w b n tf):b<w.heap.size:=by obtain⟨f,h,_⟩:=h;exact h.lt
end Go.Proofs.YtimoappbefindaaGreat
