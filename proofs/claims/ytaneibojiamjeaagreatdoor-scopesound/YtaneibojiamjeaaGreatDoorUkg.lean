/-
  1 texts in one: what each proves stands at its head.
-/
import Derived.Test.YtaneibojiamjeaaGreatDoorUkf
import Derived.Test.YtaneibojiamjeaaGreatDoorUke
/-
  The walk of ScopeFresh.
-/
namespace Go.Proofs.YtaneibojiamjeaaGreatDoor
open Go.RowKit Go.Maps
set_option maxRecDepth 100000

theorem OwN.lt {w : World} {B : Nat} {v : Value} {xs : List (List UInt8)} (h : OwN w B v xs) : ∀ g off c n, v = .slice (some ⟨g, off, none⟩) n c → g < w.heap.size := fun g off c n e => by
  subst e
  exact (owns_has h g rfl).2
theorem OwN.cap {w : World} {B : Nat} {v : Value} {xs : List (List UInt8)} (h : OwN w B v xs) : ∀ ao c, v = .slice ao xs.length c → xs.length ≤ c := fun ao c e => by
  rcases h.2 with ⟨e1, h0⟩ | ⟨g, c', cur, e1, hb, hg, h1, _⟩
  · omega
  · rw [e] at e1
    cases e1
    exact h1
theorem Ns.take {w : World} {ao : Option Addr} {xs : List (List UInt8)} (h : Ns w ao xs) (k : Nat) : Ns w ao (xs.take k) := fun j s hj => by
  rw [List.getElem?_take] at hj
  split at hj
  · exact h j s hj
  · cases hj
end Go.Proofs.YtaneibojiamjeaaGreatDoor
