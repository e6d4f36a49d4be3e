/-
  A scope in which the run jumps from label to label: what holds at every jump, label by label, and a measure that every pass lowers. No dump.
-/
import Derived.Scope
namespace Go.Proofs.Ytnpigleolifcaaa

/-- As Q; by a goto to label l: J l. -/
def jumps (J : Nat → Act → World → Prop) (Q : Exit → Act → World → Prop) : Exit → Act → World → Prop
  | .goto l, a, w => J l a w
  | e, a, w => Q e a w

end Go.Proofs.Ytnpigleolifcaaa
