/-
  The walk of fathomref02.Put.
-/
import Derived.Test.YtiikkbofcccjfaaRg
namespace Go.Proofs.Ytiikkbofcccjfaa
open Go.RowKit
open RowsM
set_option maxRecDepth 100000

theorem packed_put {n : Int} {xs : List Nat} {i v : Int} {L : List Nat} (hb : Bd xs) (h : okPut n xs i v = true) (hP : Packed ((cellsL n xs).set i.toNat v.toNat) ((cellsL n xs).set i.toNat v.toNat).length L) : L = putL n xs i v := by
  obtain ⟨hr, i0, i1, v0, v3⟩ := okPut_parts h
  have hr' := hr
  simp only [okR, decide_eq_true_eq] at hr'
  obtain ⟨n0, n1, hln, _⟩ := hr'
  have hz := (okR_cells hb n0 n1 hln).1 hr
  have hl : ((cellsL n xs).set i.toNat v.toNat).length = n.toNat := by rw [List.length_set, cellsL_len]
  refine packed_one hP (put_bd hb) (by rw [put_len h, hl]; omega) fun q j hq hj => ?_
  rw [put_len h] at hq
  rw [put_cells h q j hq hj, hl]
  have hg : 32 * q + j < n.toNat → ((cellsL n xs).set i.toNat v.toNat).getD (32 * q + j) 0 = if 32 * q + j = i.toNat then v.toNat else cellAt xs (32 * q + j) := by
    intro hlt
    rw [List.getD_eq_getElem?_getD, List.getElem?_set]
    by_cases e : i.toNat = 32 * q + j
    · rw [if_pos e, if_pos e.symm, if_pos (by rw [cellsL_len]; omega)]; rfl
    · rw [if_neg e, if_neg (fun x => e x.symm), ← List.getD_eq_getElem?_getD, cellsL_at n xs _ hlt]
  have hcc : cell (xs.getD q 0) j = cellAt xs (32 * q + j) := by
    unfold cellAt
    have e1 : (32 * q + j) / 32 = q := by omega
    have e2 : (32 * q + j) % 32 = j := by omega
    rw [e1, e2]
  by_cases hlt : 32 * q + j < n.toNat
  · rw [if_pos hlt, hg hlt, hcc]
    by_cases e : 32 * q + j = i.toNat
    · rw [if_pos e, if_pos (by omega)]
    · rw [if_neg e, if_neg (by omega)]
  · rw [if_neg hlt, if_neg (by omega), hcc]
    exact hz _ (by omega) (by omega)

end Go.Proofs.Ytiikkbofcccjfaa
