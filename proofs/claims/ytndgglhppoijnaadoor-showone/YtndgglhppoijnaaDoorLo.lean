/-
  How long a slice of bytes that is handed in may be.
-/
import Derived.Test.YtndgglhppoijnaaDoorUN
import Derived.SizedLaws
namespace Go.Proofs.YtndgglhppoijnaaDoor
open Go.ChangeShapes Go.WideShapes Go.ChangeAt Go.RowKit Go.Joins
set_option maxRecDepth 100000

theorem Tryd.bytesByte : Tryd.prog.bytesOf 5 = 1 := by kernel_rfl

theorem sized_bytes {H : Type} {enc : TypeId × Value → H} {w : World} {r : Reach} {b0 : Nat} {v : Value} {d : DataW H} {p : List MemPlace} {ts : List TypeId} {ds : List (DataW H)}
    (hs : (DataW.weightsEach Tryd.prog ts ds).all (· ≤ reachBytes) = true) {j : Nat} (ht : ts[j]? = some 22) (hd : ds[j]? = some d) (hv : Value.okWide Tryd.prog w r b0 22 v) (h : DataW.Trod enc Tryd.prog w 0 (fun _ => true) true 22 v d p) :
    ∀ ao n c, v = .slice ao n c → n ≤ 140737488351232 := by
  intro ao n c hvs
  subst hvs
  obtain ⟨m, hm⟩ := h
  rcases open_ints Tryd.underlying22 Tryd.underlying5 cellsByte hm with ⟨hcs, hx⟩ | ⟨a, len, cap, zs, hcs, _, hl, hmx, hzs, hx, hcell, hwz⟩
  · simp [Value.cells] at hcs
    omega
  · simp [Value.cells] at hcs
    obtain ⟨rfl, rfl, rfl⟩ := hcs
    simp only [if_true] at hzs
    have he : d = .slice (lits .u8 (zs.take n)) (lits .u8 (zs.drop n)) := congrArg Prod.fst hx
    rw [he] at hd
    have := sized_slice hs ht hd Tryd.underlying22
    rw [Tryd.bytesByte, Nat.mul_one] at this
    have e1 : (lits (H := H) .u8 (zs.take n)).length = n := by simp [lits]; omega
    rw [e1] at this
    unfold reachBytes at this
    omega
end Go.Proofs.YtndgglhppoijnaaDoor
