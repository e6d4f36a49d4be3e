/-
  The walk of Same, at two lists of marks that are one.
-/
import Derived.Test.YtkonkplalgoekaaGreatDoorMh
import Derived.RegionTactic
namespace Go.Proofs.YtkonkplalgoekaaGreatDoor
open Go.RowKit
set_option maxRecDepth 100000

/-- The parts of a mark's number are small. -/
def okN (m : Mk) : Prop := m.p.natAbs ≤ 16777216 ∧ m.q.natAbs ≤ 16777216

/-- One mark, with its place or but for it. -/
def eqM (pl : Bool) (x y : Mk) : Prop := x.kind = y.kind ∧ x.text = y.text ∧ x.p = y.p ∧ x.q = y.q ∧ (pl = true → x.at_ = y.at_)

theorem feq_self (p : Int) (h : p.natAbs ≤ 16777216) : Op.floatEq .f64 (fl p) (fl p) = true := by
  have h1 := rep_order (rep_fl p (by omega)) (rep_fl p (by omega))
  unfold Op.floatEq
  rw [h1]
  simp
theorem eq_cplx (p q : Int) (hp : p.natAbs ≤ 16777216) (hq : q.natAbs ≤ 16777216) (w : World) : (Op.equalIn 9999 40 (.complex .f64 (fl p) (fl q)) (.complex .f64 (fl p) (fl q))).run Tryz.prog w = .ok true w := by
  rw [show (9999 : Nat) = 9998 + 1 from rfl]
  unfold Op.equalIn
  simp [run_underlying (show Tryz.prog.underlying 40 = some (.complex .f64) by kernel_rfl), feq_self p hp, feq_self q hq]

theorem runM_okN {l : List UInt8} {k : Nat} {m : Mk} (h : runM rdN l k = some m) : okN m := by
  unfold runM at h
  split at h
  · cases h; exact ⟨by simp, by simp⟩
  · cases l with
    | nil => cases h
    | cons c r =>
      dsimp only at h
      split at h
      · split at h
        · rename_i hok
          cases h
          have hok' : rdOk (c :: r) = true := hok
          have h' := hok'
          unfold rdOk at h'
          obtain ⟨_, b1, b2, _⟩ := of_decide_eq_true h'
          refine ⟨?_, ?_⟩
          · show (rdP (c :: r)).natAbs ≤ _
            unfold rdP; rw [hok']; exact b1
          · show (rdQ (c :: r)).natAbs ≤ _
            unfold rdQ; rw [hok']; exact b2
        · cases h
      · split at h
        · cases h; exact ⟨by simp, by simp⟩
        · cases h

theorem stp_okN {l : List UInt8} {k : Nat} {m : Mk} (h : stp rdN l k = .mark m) : okN m := by
  cases l with
  | nil => simp [stp] at h
  | cons c r =>
    unfold stp at h
    dsimp only at h
    split at h
    · cases h
    · split at h
      · cases h
      · split at h
        · cases h
        · rename_i hm
          cases h
          unfold oneM at hm
          dsimp only at hm
          split at hm
          · exact runM_okN hm
          · unfold signM at hm
            split at hm
            · cases hm
            · cases hm; exact ⟨by simp, by simp⟩

theorem cut_okN : ∀ l k ms, cut rdN l k = .ok ms → ∀ m ∈ ms, okN m := by
  refine cut_ind rdN ?_ ?_ ?_ ?_
  · intro k ms h m hm; cases h; simp at hm; subst hm; exact ⟨by simp [endM], by simp [endM]⟩
  · intro l k h ms e; rw [cut_bad rdN h] at e; cases e
  · intro l k n h ih ms e; rw [cut_skip rdN h] at e; exact ih ms e
  · intro l k m h ih ms e
    rw [cut_mark rdN h] at e
    cases hc' : cut rdN (l.drop m.text.length) (k + m.text.length) with
    | bad j => rw [hc'] at e; cases e
    | ok ms' =>
      rw [hc'] at e
      cases e
      intro x hx
      simp only [List.cons_append, List.nil_append, List.mem_cons] at hx
      rcases hx with rfl | hx
      · exact stp_okN h
      · exact ih ms' hc' x hx

theorem okN_get {ms : List Mk} (h : ∀ m ∈ ms, okN m) : ∀ t, t < ms.length → okN (ms.getD t md) := by
  intro t ht
  rw [List.getD_eq_getElem?_getD, List.getElem?_eq_getElem ht]
  exact h _ (List.getElem_mem _)

theorem cut_few : ∀ l k ms, cut rdN l k = .ok ms → ms.length ≤ l.length + 1 := by
  refine cut_ind rdN ?_ ?_ ?_ ?_
  · intro k ms h; cases h; simp
  · intro l k h ms e; rw [cut_bad rdN h] at e; cases e
  · intro l k n h ih ms e; rw [cut_skip rdN h] at e; have := ih ms e; rw [List.length_drop] at this; omega
  · intro l k m h ih ms e
    obtain ⟨h1, h2, _⟩ := stp_mark rdN h
    rw [cut_mark rdN h] at e
    cases hc' : cut rdN (l.drop m.text.length) (k + m.text.length) with
    | bad j => rw [hc'] at e; cases e
    | ok ms' =>
      rw [hc'] at e
      cases e
      have := ih ms' hc'
      rw [List.length_drop] at this
      simp
      omega
end Go.Proofs.YtkonkplalgoekaaGreatDoor
