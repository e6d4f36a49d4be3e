/-
  3 texts in one: what each proves stands at its head.
-/
import Derived.Test.YtimoappbefindaaGreatUn
import Derived.Maps.OwnIn
import Derived.Deep.RegionWith
namespace Go.Proofs.YtimoappbefindaaGreat
open Go.RowKit Go.Shelf Go.Maps
open Go.RowKit Go.Maps
set_option maxRecDepth 100000
section
variable (ff:List UInt8→Option Fn1) (tf:List UInt8→Int) (op:Int) (name tail:List UInt8) (ty t:Int)
end
theorem Tn.mono {w:World} {b n m:Nat} {tf:List UInt8→Int} (h:Tn w b n tf) (hm:n≤m):Tn w b m tf:=by
 obtain⟨f,h,r⟩:=h
 exact⟨f,h.mono hm,r⟩
end Go.Proofs.YtimoappbefindaaGreat
