/-
  What Parse answers, kept; a program and a fault in two new blocks, whatever the order in which they were made.
-/
import Derived.Test.YtaneibojiamjeaaGreatDoorUM
import Derived.Test.YtaneibojiamjeaaGreatDoorUV
import Derived.Test.YtaneibojiamjeaaGreatDoorUI
namespace Go.Proofs.YtaneibojiamjeaaGreatDoor
open Go.RowKit
set_option maxRecDepth 100000

theorem paV_shape {l : List UInt8} {lt lf la ln : Int} {f B : Nat} {e : Ending} {w' : World} (h : paV l lt lf la ln f B e w') (hf : ∀ ms, cut rdN l 0 = .ok ms → progL (mf ms) ⟨max lf 0, max la 0, max ln 0⟩ f [] 0 ≠ .out) :
    ∃ (ao : Option Addr) (n c : Nat) (y a : Int), e = .returned (.tuple #[.agg #[.slice ao n c], .agg #[.int .i64 y, .int .i64 a]]) := by
  rcases paV_cases h hf with ⟨_, h⟩ | ⟨_, k, _, h⟩ | ⟨_, ms, gs, j, _, _, ao, c, h, _⟩ | ⟨_, ms, y, k, hc, hq, h⟩
  all_goals exact ⟨_, _, _, _, _, h⟩
section
variable {W0 wp : World} {l : List UInt8} {lt lf la ln : Int} {F B gp gf : Nat} {ao1 : Option Addr} {n1 cc1 : Nat} {y1 a1 : Int} (hpp : paV l lt lf la ln F B (.returned (.tuple #[.agg #[.slice ao1 n1 cc1], .agg #[.int .i64 y1, .int .i64 a1]])) wp) (hB : Below W0.heap.size W0 wp) (h1 : W0.heap.size ≤ B)
include hpp hB h1
end
end Go.Proofs.YtaneibojiamjeaaGreatDoor
