/-
  The walk of the document's Parse.
-/
import Derived.Test.YtknpdjbcemgenabDoorRn
import Derived.Test.YtknpdjbcemgenabDoorRf
namespace Go.Proofs.YtknpdjbcemgenabDoor
open Go.RowKit
open Go.Lib
set_option maxRecDepth 100000

theorem kept0 {w W w1 : World} {v : Value} (hb : Below W.heap.size W w1) (h : W.cell? ⟨w.heap.size, 0, none⟩ = some v) : w1.cell? ⟨w.heap.size, 0, none⟩ = some v := keep hb h
theorem kept1 {w W w1 : World} {v : Value} (hb : Below W.heap.size W w1) (h : W.cell? ⟨w.heap.size, 1, none⟩ = some v) : w1.cell? ⟨w.heap.size, 1, none⟩ = some v := keep hb h
theorem kept2 {w W w1 : World} {v : Value} (hb : Below W.heap.size W w1) (h : W.cell? ⟨w.heap.size + 1, 0, none⟩ = some v) : w1.cell? ⟨w.heap.size + 1, 0, none⟩ = some v := keep hb h
theorem kept3 {w W w1 : World} {v : Value} (hb : Below W.heap.size W w1) (h : W.cell? ⟨w.heap.size + 1, 1, none⟩ = some v) : w1.cell? ⟨w.heap.size + 1, 1, none⟩ = some v := keep hb h
theorem frz {w W w1 : World} {o : Nat} (hb : Below W.heap.size W w1) (hl : w.heap.size < W.heap.size) (h : W.frozen? ⟨w.heap.size, o, none⟩ = false) : w1.frozen? ⟨w.heap.size, o, none⟩ = false := by
  rw [(bcell hb).2 _ _ hl]; exact h
theorem wide {w W w1 : World} (hb : Below W.heap.size W w1) (h : Below w.heap.size w W) : Below w.heap.size w w1 := h.trans (hb.mono h.size)

theorem below_set2 {w w1 : World} (hB : Below w.heap.size w w1) (u v : Value) : Below w.heap.size w ((w1.setCell ⟨w.heap.size, 0, none⟩ u).setCell ⟨w.heap.size, 1, none⟩ v) :=
  Below.setCell (p := ⟨w.heap.size, 1, none⟩) (Below.setCell (p := ⟨w.heap.size, 0, none⟩) hB (Nat.le_refl _) u) (Nat.le_refl _) v

/-- What the document's Parse answers of a text. -/
def rdE (l : List UInt8) : Int := if rdOk l then 0 else 10
def rdP (l : List UInt8) : Int := if rdOk l then rdX l else 0
def rdQ (l : List UInt8) : Int := if rdOk l then rdY l else 0

theorem bs_toList (l : List UInt8) : (bs l).toList = l := by rw [Lib.toList_data, bs_list]

end Go.Proofs.YtknpdjbcemgenabDoor
