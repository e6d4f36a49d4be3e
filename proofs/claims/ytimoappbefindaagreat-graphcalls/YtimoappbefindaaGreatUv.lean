/-
  2 texts in one: what each proves stands at its head.
-/
import Derived.Test.YtimoappbefindaaGreatUI
import Derived.Deep.RegionHeld2
import Derived.ScopeJumps
import Derived.Deep.RegionWith
namespace Go.Proofs.YtimoappbefindaaGreat
open Go.RowKit
set_option maxRecDepth 100000
def ul (R:Nat) (w:World):Nat:=match w.cell? ⟨R,1,none⟩ with|some (.int _ i)=>i.toNat|_=>0
theorem ExW.but2 {w w':World} {A:Nat→Prop} {R:Nat} {e:Ex} {vs:List Value} (h:ExW w A e vs) (hU:But R w w') (hA:∀ b,A b→b≠R):ExW w' A e vs:=h.keep fun b hb hl=>hU.block b hl (hA b hb)
theorem ExW.oth2 {w w':World} {A:Nat→Prop} {g:Nat} {e:Ex} {vs:List Value} (h:ExW w A e vs) (hU:Oth g w w') (hA:∀ b,A b→b≠g):ExW w' A e vs:=h.keep fun b hb _=>hU.block b (hA b hb)
end Go.Proofs.YtimoappbefindaaGreat
