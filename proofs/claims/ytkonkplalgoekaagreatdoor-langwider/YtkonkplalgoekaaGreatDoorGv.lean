/-
  Rows of marks as cutting leaves them; a text cut off behind a mark; a fault of the grammar stays whatever follows.
-/
import Derived.Test.YtkonkplalgoekaaGreatDoorGs
namespace Go.Proofs.YtkonkplalgoekaaGreatDoor
set_option maxHeartbeats 1000000

section
variable (N : Num)

/-- Marks, and behind them the end. -/
structure Row1 (k e : Nat) (ms : List Mk) : Prop where
  ex : ∃ init, ms = init ++ [endM e] ∧ ∀ m ∈ init, m.kind ≠ 4 ∧ m.text ≠ []
  inc : ms.Pairwise fun a b => a.at_ < b.at_
  lo : ∀ m ∈ ms, k ≤ m.at_

theorem cut_row : ∀ l k ms, cut N l k = .ok ms → Row1 k (k + l.length) ms := by
  refine cut_ind N ?_ ?_ ?_ ?_
  · intro k ms h
    cases h
    exact ⟨⟨[], rfl, fun m h => by cases h⟩, by simp, by simp [endM]⟩
  · intro l k h ms e
    rw [cut_bad N h] at e
    cases e
  · intro l k n h ih ms e
    obtain ⟨h1, h2⟩ := stp_skip N h
    rw [cut_skip N h] at e
    have i := ih ms e
    rw [List.length_drop, show k + n + (l.length - n) = k + l.length by omega] at i
    exact ⟨i.ex, i.inc, fun m hm => by have := i.lo m hm; omega⟩
  · intro l k m h ih ms e
    obtain ⟨h1, h2, h3, h4, h5⟩ := stp_mark N h
    rw [cut_mark N h] at e
    cases hc : cut N (l.drop m.text.length) (k + m.text.length) with
    | bad i => rw [hc] at e; cases e
    | ok ms' =>
      rw [hc] at e
      cases e
      have i := ih ms' hc
      rw [List.length_drop, show k + m.text.length + (l.length - m.text.length) = k + l.length by omega] at i
      obtain ⟨init, e1, e2⟩ := i.ex
      refine ⟨⟨m :: init, by rw [e1]; rfl, ?_⟩, ?_, ?_⟩
      · intro x hx
        rcases List.mem_cons.1 hx with rfl | hx
        · exact ⟨h5, by intro e; rw [e] at h1; simp at h1⟩
        · exact e2 x hx
      · show (m :: ms').Pairwise _
        refine List.pairwise_cons.2 ⟨fun x hx => ?_, i.inc⟩
        have := i.lo x hx
        omega
      · intro x hx
        rcases List.mem_cons.1 (show x ∈ m :: ms' from hx) with rfl | hx
        · omega
        · have := i.lo x hx
          omega

/-- A text cut off behind its mark of number i. -/
theorem cut_upto : ∀ l k ms, cut N l k = .ok ms → ∀ i m, ms[i]? = some m → m.kind ≠ 4 →
    k ≤ m.at_ ∧ m.at_ + m.text.length ≤ k + l.length ∧ cut N (l.take (m.at_ + m.text.length - k)) k = .ok (ms.take (i + 1) ++ [endM (m.at_ + m.text.length)]) := by
  refine cut_ind N ?_ ?_ ?_ ?_
  · intro k ms h i m hi hk
    cases h
    cases i with
    | zero => simp at hi; subst hi; exact absurd rfl hk
    | succ i => simp at hi
  · intro l k h ms e
    rw [cut_bad N h] at e
    cases e
  · intro l k n h ih ms e i m hi hk
    obtain ⟨h1, h2⟩ := stp_skip N h
    rw [cut_skip N h] at e
    obtain ⟨i1, i2, i3⟩ := ih ms e i m hi hk
    rw [List.length_drop] at i2
    refine ⟨by omega, by omega, ?_⟩
    cases l with
    | nil => simp [stp] at h
    | cons c r =>
      obtain ⟨j, hj⟩ : ∃ j, m.at_ + m.text.length - k = j + 1 := ⟨m.at_ + m.text.length - k - 1, by omega⟩
      rw [hj, List.take_succ_cons, cut_skip N (by rw [stp_take N (.inl h) j (by omega)]; exact h), ← i3, ← List.take_succ_cons, ← hj, List.drop_take]
      congr 2
      omega
  · intro l k m0 h ih ms e i m hi hk
    obtain ⟨h1, h2, h3, h4, h5⟩ := stp_mark N h
    rw [cut_mark N h] at e
    cases hc : cut N (l.drop m0.text.length) (k + m0.text.length) with
    | bad i => rw [hc] at e; cases e
    | ok ms' =>
      rw [hc] at e
      cases e
      have hi' : (m0 :: ms')[i]? = some m := hi
      cases l with
      | nil => simp [stp] at h
      | cons c r =>
        cases i with
        | zero =>
          simp only [List.getElem?_cons_zero, Option.some.injEq] at hi'
          subst hi'
          refine ⟨by omega, by omega, ?_⟩
          obtain ⟨j, hj⟩ : ∃ j, m0.at_ + m0.text.length - k = j + 1 := ⟨m0.at_ + m0.text.length - k - 1, by omega⟩
          rw [hj, List.take_succ_cons, cut_mark N (by rw [stp_take N (.inr ⟨m0, h, rfl⟩) j (by omega)]; exact h), ← List.take_succ_cons, ← hj, List.drop_take, show m0.at_ + m0.text.length - k - m0.text.length = 0 by omega, List.take_zero, cut_nil, h4]
          rfl
        | succ i =>
          obtain ⟨i1, i2, i3⟩ := ih ms' hc i m hi' hk
          rw [List.length_drop] at i2
          refine ⟨by omega, by omega, ?_⟩
          obtain ⟨j, hj⟩ : ∃ j, m.at_ + m.text.length - k = j + 1 := ⟨m.at_ + m.text.length - k - 1, by omega⟩
          rw [hj, List.take_succ_cons, cut_mark N (by rw [stp_take N (.inr ⟨m0, h, rfl⟩) j (by omega)]; exact h), ← List.take_succ_cons, ← hj, List.drop_take, show m.at_ + m.text.length - k - m0.text.length = m.at_ + m.text.length - (k + m0.text.length) by omega, i3]
          rfl

/-- A row of marks, as the parser reads it. -/
def mf (ms : List Mk) (k : Nat) : Mk := ms.getD k ⟨4, [], 0, 0, 0⟩

theorem mf_get {ms : List Mk} {k : Nat} {m : Mk} (h : ms[k]? = some m) : mf ms k = m := by
  unfold mf
  rw [List.getD_eq_getElem?_getD, h]
  rfl
theorem mf_mem {ms : List Mk} {k : Nat} (h : k < ms.length) : ms[k]? = some (mf ms k) := by
  unfold mf
  rw [List.getD_eq_getElem?_getD, List.getElem?_eq_getElem h]
  rfl

theorem Row1.pos {k e : Nat} {ms : List Mk} (h : Row1 k e ms) : 0 < ms.length := by
  obtain ⟨init, e1, _⟩ := h.ex
  rw [e1]; simp

theorem Row1.last {k e : Nat} {ms : List Mk} (h : Row1 k e ms) {t : Nat} (ht : t + 1 = ms.length) : mf ms t = endM e := by
  obtain ⟨init, e1, _⟩ := h.ex
  rw [e1] at ht ⊢
  unfold mf
  simp at ht
  subst ht
  simp [List.getD_eq_getElem?_getD]

theorem Row1.inner {k e : Nat} {ms : List Mk} (h : Row1 k e ms) {t : Nat} (ht : t + 1 < ms.length) : (mf ms t).kind ≠ 4 ∧ (mf ms t).text ≠ [] := by
  obtain ⟨init, e1, e2⟩ := h.ex
  rw [e1] at ht ⊢
  simp at ht
  unfold mf
  rw [List.getD_eq_getElem?_getD, List.getElem?_append_left ht, List.getElem?_eq_getElem ht]
  exact e2 _ (List.getElem_mem ht)

theorem Row1.ends {k e : Nat} {ms : List Mk} (h : Row1 k e ms) : Ends (mf ms) ms.length := by
  intro t ht hx
  rcases Nat.lt_or_ge (t + 1) ms.length with h1 | h1
  · exact h1
  · rw [h.last (show t + 1 = ms.length by omega)] at hx
    simp [endM] at hx

theorem Row1.four {k e : Nat} {ms : List Mk} (h : Row1 k e ms) (t : Nat) (h4 : (mf ms t).kind = 4) : (mf ms t).text = [] := by
  rcases Nat.lt_or_ge (t + 1) ms.length with h1 | h1
  · exact absurd h4 (h.inner h1).1
  · rcases Nat.lt_or_ge t ms.length with h2 | h2
    · rw [h.last (show t + 1 = ms.length by omega)]; rfl
    · unfold mf
      rw [List.getD_eq_getElem?_getD, List.getElem?_eq_none h2]
      rfl

theorem Row1.four_at {k e : Nat} {ms : List Mk} (h : Row1 k e ms) {t : Nat} (ht : t < ms.length) (h4 : (mf ms t).kind = 4) : t + 1 = ms.length := by
  rcases Nat.lt_or_ge (t + 1) ms.length with h1 | h1
  · exact absurd h4 (h.inner h1).1
  · omega

theorem Row1.one {k e : Nat} {ms : List Mk} (h : Row1 k e ms) {s t : Nat} (hs : s < ms.length) (ht : t < ms.length) (ha : (mf ms s).at_ = (mf ms t).at_) : s = t := by
  have hp := List.pairwise_iff_getElem.1 h.inc
  have e1 := mf_mem hs
  have e2 := mf_mem ht
  rw [List.getElem?_eq_getElem hs, Option.some.injEq] at e1
  rw [List.getElem?_eq_getElem ht, Option.some.injEq] at e2
  rcases Nat.lt_trichotomy s t with hlt | rfl | hlt
  · have := hp s t hs ht hlt
    rw [e1, e2] at this
    omega
  · rfl
  · have := hp t s ht hs hlt
    rw [e1, e2] at this
    omega

/-- A fault of the grammar at a mark: whatever stands behind that mark, it stays. -/
theorem fault_stays (L : Lm) (T B : List UInt8) (ms mb : List Mk) (hc : cut N T 0 = .ok ms) (hcb : cut N B 0 = .ok mb) (f : Nat) (y : Int) (k : Nat) (hk : k < ms.length) (hb : progL (mf ms) L f [] 0 = .bad y k) (h4 : (mf ms k).kind ≠ 4) :
    ∃ ms', cut N (T.take ((mf ms k).at_ + (mf ms k).text.length) ++ 10 :: B) 0 = .ok ms' ∧ progL (mf ms') L f [] 0 = .bad y k ∧ mf ms' k = mf ms k := by
  obtain ⟨i1, i2, i3⟩ := cut_upto N T 0 ms hc k (mf ms k) (mf_mem hk) h4
  rw [Nat.sub_zero] at i3
  have hj := cut_join N B (T.take ((mf ms k).at_ + (mf ms k).text.length)) 0
  rw [i3, Nat.zero_add] at hj
  have hv := cut_mv N ((T.take ((mf ms k).at_ + (mf ms k).text.length)).length + 1) B 0
  rw [Nat.zero_add, hcb] at hv
  rw [hv] at hj
  refine ⟨_, hj, ?_⟩
  have hag : ∀ t, t ≤ k → mf ((ms.take (k + 1) ++ [endM ((mf ms k).at_ + (mf ms k).text.length)]).dropLast ++ mb.map (·.mv ((T.take ((mf ms k).at_ + (mf ms k).text.length)).length + 1))) t = mf ms t := by
    intro t ht
    refine mf_get ?_
    rw [List.dropLast_concat, List.getElem?_append_left (by rw [List.length_take]; omega), List.getElem?_take, if_pos (by omega)]
    exact mf_mem (by omega)
  refine ⟨?_, hag k (Nat.le_refl _)⟩
  have := sr_prog (ρ := fun a b => b = a) (K := fun t => t ≤ k) (k0 := 0) (s := 0) (mf ms) (mf ((ms.take (k + 1) ++ [endM ((mf ms k).at_ + (mf ms k).text.length)]).dropLast ++ mb.map (·.mv ((T.take ((mf ms k).at_ + (mf ms k).text.length)).length + 1)))) L (fun i j _ h1 h2 => Nat.le_trans h1 h2) (fun t _ ht => by
    show MR _ (mf ms t) (mf _ t)
    rw [hag t ht]
    exact ⟨rfl, rfl, rfl, rfl, rfl⟩) f [] [] 0 (Nat.le_refl _) .nil
  rw [hb] at this
  exact this (Nat.le_refl _)
end
end Go.Proofs.YtkonkplalgoekaaGreatDoor
