/-
  A value's four cells; the walks of Same, and of the document's Valid, Same, Whole.
-/
import Derived.Test.YtebpjcjoapahnaaVd
namespace Go.Proofs.Ytebpjcjoapahnaa
open Go.RowKit
open Go.Lib
set_option maxRecDepth 100000

/-- A value's cells at this place. -/
structure V4 (w : World) (b o : Nat) (ao : Option Addr) (cap : Nat) (v : Rv) : Prop where
  c0 : w.cell? ⟨b, o, none⟩ = some (.int .i64 v.t)
  c1 : w.cell? ⟨b, o + 1, none⟩ = some (.complex .f64 v.z.1 v.z.2)
  c2 : w.cell? ⟨b, o + 2, none⟩ = some (.bool v.r)
  c3 : w.cell? ⟨b, o + 3, none⟩ = some (.slice ao v.zs.length cap)

theorem V4.to {w w' : World} {b o B : Nat} {ao : Option Addr} {cap : Nat} {v : Rv} (h : V4 w b o ao cap v) (hl : b < B) (hb : Below B w w') : V4 w' b o ao cap v :=
  ⟨(hb.cell hl).trans h.c0, (hb.cell hl).trans h.c1, (hb.cell hl).trans h.c2, (hb.cell hl).trans h.c3⟩
theorem V4.lt {w : World} {b o : Nat} {ao : Option Addr} {cap : Nat} {v : Rv} (h : V4 w b o ao cap v) : b < w.heap.size := cell_lt h.c0
theorem V4.up {w w' : World} {b o : Nat} {ao : Option Addr} {cap : Nat} {v : Rv} (h : V4 w b o ao cap v) (hb : Below w.heap.size w w') : V4 w' b o ao cap v := h.to h.lt hb
def vObj (ao : Option Addr) (cap : Nat) (v : Rv) : Obj := .cells #[.int .i64 v.t, .complex .f64 v.z.1 v.z.2, .bool v.r, .slice ao v.zs.length cap] 32
theorem V4.new (w : World) (ao : Option Addr) (cap : Nat) (v : Rv) : V4 (w.alloc (vObj ao cap v)) w.heap.size 0 ao cap v := by
  have h := fun j => cell_of_row (w.alloc (vObj ao cap v)) w.heap.size j _ _ _ (heap_alloc_new w _)
  exact ⟨by rw [h]; rfl, by rw [h]; rfl, by rw [h]; rfl, by rw [h]; rfl⟩

theorem sound_vc {v : Rv} (h : soundV v = true) : vc v.z.1 v.z.2 = true ∧ allV v.zs = true := by
  obtain ⟨u, hu, rfl⟩ := sound_is h
  cases u with
  | n z => exact ⟨vc_wz hu, rfl⟩
  | b r => exact ⟨vc_zero, rfl⟩
  | l zs =>
    refine ⟨vc_zero, ?_⟩
    simp only [ofV]
    unfold allV
    rw [List.all_eq_true]
    intro z hz
    obtain ⟨y, hy, rfl⟩ := List.mem_map.1 hz
    exact vc_wz (hu y hy)

/-- A value that is handed on: its words fit, and its elements are read. -/
structure Vr (w : World) (ao : Option Addr) (v : Rv) : Prop where
  z : ltZ v.z
  l : Zr w ao v.zs
  n : v.zs.length ≤ 5864062014806
theorem Vr.up {w w' : World} {ao : Option Addr} {v : Rv} (h : Vr w ao v) (hb : Below w.heap.size w w') : Vr w' ao v := ⟨h.z, h.l.up hb, h.n⟩
theorem Vr.alloc {w : World} {ao : Option Addr} {v : Rv} (h : Vr w ao v) (o : Obj) : Vr (w.alloc o) ao v := ⟨h.z, h.l.alloc o, h.n⟩

theorem sameV_ne {v u : Rv} (h : v ≠ u) : sameV v u = false := by unfold sameV; rw [decide_eq_false h, Bool.and_false]

end Go.Proofs.Ytebpjcjoapahnaa
