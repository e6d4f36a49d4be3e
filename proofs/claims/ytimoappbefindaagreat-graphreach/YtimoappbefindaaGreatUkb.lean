/-
  2 texts in one: what each proves stands at its head.
-/
import Derived.Test.YtimoappbefindaaGreatUl
namespace Go.Proofs.YtimoappbefindaaGreat
open Go.RowKit Go.Maps
set_option maxRecDepth 100000
def Sn (w:World) (m:Nat) (l:List (List UInt8)):Prop:=MapW Tryz.prog 9 w m l.length fun s=>if s∈l then some (.agg #[]) else none
theorem Sn.lt {w:World} {m:Nat} {l:List (List UInt8)} (h:Sn w m l):m<w.heap.size:=MapW.lt h
end Go.Proofs.YtimoappbefindaaGreat
