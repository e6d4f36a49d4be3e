/-
  The walk of Marks.
-/
import Derived.Test.YtnpigleolifcaaaUG
namespace Go.Proofs.Ytnpigleolifcaaa
open Go.RowKit
set_option maxRecDepth 100000

theorem drop_at {l : List UInt8} {k : Nat} (h : k < l.length) : l.drop k = l.getD k 0 :: l.drop (k + 1) := by
  rw [List.drop_eq_getElem_cons h]
  congr 1
  rw [List.getD_eq_getElem?_getD, List.getElem?_eq_getElem h]
  rfl

theorem step_blank {l : List UInt8} {k : Nat} (h : k < l.length) (hb : isBl (l.getD k 0) = true) : cut rdN (l.drop k) k = cut rdN (l.drop (k + 1)) (k + 1) := by
  rw [drop_at h]
  exact gap_one rdN _ hb _ _

theorem step_hash {l : List UInt8} {k : Nat} (h : k < l.length) (_hb : isBl (l.getD k 0) = false) (hc : l.getD k 0 = 35) :
    cut rdN (l.drop k) k = cut rdN ((l.drop k).dropWhile (· != 10)) (k + ((l.drop k).takeWhile (· != 10)).length) := by
  have hs : stp rdN (l.drop k) k = .skip (1 + ((l.drop (k + 1)).takeWhile (· != 10)).length) := by
    rw [drop_at h, hc]
    rfl
  rw [cut_skip rdN hs, Nat.add_comm 1, drop_at h, hc, List.drop_succ_cons, tw_drop]
  have e1 : ((35 : UInt8) :: l.drop (k + 1)).dropWhile (· != 10) = (l.drop (k + 1)).dropWhile (· != 10) := by rw [List.dropWhile_cons, if_pos (by decide)]
  have e2 : (((35 : UInt8) :: l.drop (k + 1)).takeWhile (· != 10)).length = ((l.drop (k + 1)).takeWhile (· != 10)).length + 1 := by rw [List.takeWhile_cons, if_pos (by decide)]; rfl
  rw [e1, e2]

theorem stp_one {c : UInt8} {r : List UInt8} {k : Nat} (hb : isBl c = false) (hc : c ≠ 35) : stp rdN (c :: r) k = match oneM rdN (c :: r) k with | none => .bad | some m => .mark m := by
  have hc' : (c == 35) = false := by rw [beq_eq_false_iff_ne]; exact hc
  unfold stp
  dsimp only
  rw [hb, hc']
  rfl

end Go.Proofs.Ytnpigleolifcaaa
