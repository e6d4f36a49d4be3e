/-
  The walk of Same, at two lists of marks that are one.
-/
import Derived.Test.YtdimjpakgbebcaaDoorMh
import Derived.RegionTactic
namespace Go.Proofs.YtdimjpakgbebcaaDoor
open Go.RowKit
set_option maxRecDepth 100000

/-- The parts of a mark's number are small. -/
def okN (m : Mk) : Prop := m.p.natAbs ≤ 16777216 ∧ m.q.natAbs ≤ 16777216

/-- One mark, with its place or but for it. -/
def eqM (pl : Bool) (x y : Mk) : Prop := x.kind = y.kind ∧ x.text = y.text ∧ x.p = y.p ∧ x.q = y.q ∧ (pl = true → x.at_ = y.at_)

theorem feq_self (p : Int) (h : p.natAbs ≤ 16777216) : Op.floatEq .f64 (fl p) (fl p) = true := by
  have h1 := rep_order (rep_fl p (by omega)) (rep_fl p (by omega))
  unfold Op.floatEq
  rw [h1]
  simp
theorem eq_cplx (p q : Int) (hp : p.natAbs ≤ 16777216) (hq : q.natAbs ≤ 16777216) (w : World) : (Op.equalIn 9999 32 (.complex .f64 (fl p) (fl q)) (.complex .f64 (fl p) (fl q))).run Tryd.prog w = .ok true w := by
  rw [show (9999 : Nat) = 9998 + 1 from rfl]
  unfold Op.equalIn
  simp [run_underlying (show Tryd.prog.underlying 32 = some (.complex .f64) by kernel_rfl), feq_self p hp, feq_self q hq]

set_option maxHeartbeats 2000000 in
theorem same_some (pl : Bool) (b1 o1 c1 b2 o2 c2 : Nat) (xs ys : List Mk) (hlen : xs.length = ys.length) (hlim : xs.length ≤ 67108864) (w : World)
    (h1 : ∀ t, t < xs.length → M4 w b1 (o1 + t * 4) (xs.getD t md)) (h2 : ∀ t, t < ys.length → M4 w b2 (o2 + t * 4) (ys.getD t md)) (he : ∀ t, t < xs.length → eqM pl (xs.getD t md) (ys.getD t md)) (hk : ∀ t, t < ys.length → okN (ys.getD t md)) :
    Calls Tryd.prog 7 #[.slice (some ⟨b1, o1, none⟩) xs.length c1, .slice (some ⟨b2, o2, none⟩) ys.length c2, .bool pl] w fun e w' => e = .returned (.bool true) ∧ Below w.heap.size w w' := by
  rw [← hlen]
  obtain ⟨n, hn⟩ : ∃ n, n = xs.length := ⟨_, rfl⟩
  rw [← hn]
  have hn2 : n = ys.length := hn.trans hlen
  rw [← hn] at hlim
  clear hlen
  go_enter Tryd.func7, Tryd.ntmps7
  go_wp2
  go_loopw [7] (fun i wr => ∃ k : Nat, k ≤ n ∧ i = .int .i64 k ∧ Below w.heap.size w wr) (fun i _ => n - (intOf i).toNat)
  case atStart => exact ⟨0, Nat.zero_le _, rfl, Below.refl _ _⟩
  case round =>
    obtain ⟨k, hkn, rfl, hB⟩ := hrel
    by_cases hlt : k < n
    · have hlt1 : k < xs.length := by omega
      have hlt2 : k < ys.length := by omega
      obtain ⟨e1, e2, e3, e4, e5⟩ := he k hlt1
      obtain ⟨x, hx⟩ : ∃ x, x = xs.getD k md := ⟨_, rfl⟩
      obtain ⟨y, hy⟩ : ∃ y, y = ys.getD k md := ⟨_, rfl⟩
      have hm1 := (h1 k hlt1).to (h1 k hlt1).lt hB
      have hm2 := (h2 k hlt2).to (h2 k hlt2).lt hB
      have hok := hk k hlt2
      have hs := S4.new wr (.int .i64 0) (.string ⟨#[]⟩) (.complex .f64 0 0) (.int .i64 0)
      rw [← hx] at hm1 e1 e2 e3 e4 e5
      rw [← hy] at hm2 e1 e2 e3 e4 e5 hok
      have hbl := hm2.lt
      have HM2 : Hid (M4 wr b2 (o2 + k * 4) y) := hm2
      obtain ⟨l1, l2, l3, l4⟩ := hm1
      rw [e1] at l1
      rw [e2] at l2
      rw [e3, e4] at l3
      have hce := fun W => eq_cplx y.p y.q hok.1 hok.2 W
      clear h1 h2 he hk hx hy hlt1 hlt2 hn hn2 hm2
      cases pl with
      | true =>
        rw [e5 rfl] at l4
        clear e5
        go_wp2_with (refine wpList_store4 rfl (.tmp 8) (.tmp 23) rfl wr.heap.size _ _ _ _ rfl rfl hs ⟨rfl, rfl, rfl, rfl⟩ ?_; intro w1 s1 oth; obtain ⟨r1, r2, r3, r4⟩ := (show M4 wr b2 (o2 + k * 4) y from HM2).to (B := wr.heap.size) hbl ((below_alloc wr _).trans (oth.below (Nat.le_refl _))); obtain ⟨t1, t2, t3, t4⟩ := s1.cells; have hB1 := Below.thn hB ((below_alloc wr _).trans (oth.below (Nat.le_refl _))))
        go_region
        all_goals
          go_wp2
          go_roundw
          case rel => exact ⟨k + 1, by omega, by go_num, hB1.drew⟩
          case measure => simp [intOf]; omega
      | false =>
        clear e5
        obtain ⟨r1, r2, r3, r4⟩ := (show M4 wr b2 (o2 + k * 4) y from HM2)
        go_wp2_with (refine wpList_store4 rfl (.tmp 8) (.tmp 23) rfl wr.heap.size _ _ _ _ rfl rfl hs ⟨rfl, rfl, rfl, rfl⟩ ?_; intro w1 s1 oth; clear r1 r2 r3 r4; have hB1 := Below.thn hB ((below_alloc wr _).trans (oth.below (Nat.le_refl _))); have hM3 := (show M4 wr b2 (o2 + k * 4) y from HM2).to (B := wr.heap.size) hbl ((below_alloc wr _).trans (oth.below (Nat.le_refl _))); have r4 := hM3.2.2.2; obtain ⟨_, _, _, t4⟩ := s1.cells; obtain ⟨_, _, _, f4⟩ := s1.frz; have s2 := s1.set3 (.int .i64 y.at_); obtain ⟨v1, v2, v3, v4⟩ := s2.cells; obtain ⟨x1, x2, x3, x4⟩ := hM3.to (B := wr.heap.size) hbl ((Below.refl _ w1).setCell (p := ⟨wr.heap.size, 3, none⟩) (Nat.le_refl _) (.int .i64 y.at_)); have hB2 := hB1.setCell (p := ⟨wr.heap.size, 3, none⟩) hB.size (.int .i64 y.at_))
        go_region
        all_goals
          go_wp2
          go_roundw
          case rel => exact ⟨k + 1, by omega, by go_num, hB2.drew⟩
          case measure => simp [intOf]; omega
    · have hke : k = n := by omega
      subst hke
      go_wp2
      go_ret
      exact ⟨rfl, hB⟩

set_option maxHeartbeats 400000 in
theorem same_nil (pl : Bool) (a1 a2 : Option Addr) (c1 c2 : Nat) (w : World) :
    Calls Tryd.prog 7 #[.slice a1 0 c1, .slice a2 0 c2, .bool pl] w fun e w' => e = .returned (.bool true) ∧ Below w.heap.size w w' := by
  go_enter Tryd.func7, Tryd.ntmps7
  go_wp2
  refine wp_loop_rounds 1 ?_
  rw [rounds_succ]
  go_wp2
  go_ret
  exact ⟨rfl, Below.refl _ _⟩

theorem same_any (pl : Bool) (a1 a2 : Option Addr) (c1 c2 : Nat) (xs ys : List Mk) (hlen : xs.length = ys.length) (hlim : xs.length ≤ 67108864) (w : World) (h1 : Mr w a1 xs) (h2 : Mr w a2 ys)
    (he : ∀ t, t < xs.length → eqM pl (xs.getD t md) (ys.getD t md)) (hk : ∀ t, t < ys.length → okN (ys.getD t md)) :
    Calls Tryd.prog 7 #[.slice a1 xs.length c1, .slice a2 ys.length c2, .bool pl] w fun e w' => e = .returned (.bool true) ∧ Below w.heap.size w w' := by
  by_cases hx : xs = []
  · subst hx
    have hy : ys = [] := by cases ys with | nil => rfl | cons => simp at hlen
    subst hy
    exact same_nil pl a1 a2 c1 c2 w
  · have hy : ys ≠ [] := by intro e; subst e; simp at hlen; exact hx hlen
    obtain ⟨b1, o1, rfl, _⟩ := h1.pl hx
    obtain ⟨b2, o2, rfl, _⟩ := h2.pl hy
    exact same_some pl b1 o1 c1 b2 o2 c2 xs ys hlen hlim w h1.at h2.at he hk

/-! ## The numbers of marks are small -/
theorem runM_okN {l : List UInt8} {k : Nat} {m : Mk} (h : runM rdN l k = some m) : okN m := by
  unfold runM at h
  split at h
  · cases h; exact ⟨by simp, by simp⟩
  · cases l with
    | nil => cases h
    | cons c r =>
      dsimp only at h
      split at h
      · split at h
        · rename_i hok
          cases h
          have hok' : rdOk (c :: r) = true := hok
          have h' := hok'
          unfold rdOk at h'
          obtain ⟨_, b1, b2, _⟩ := of_decide_eq_true h'
          refine ⟨?_, ?_⟩
          · show (rdP (c :: r)).natAbs ≤ _
            unfold rdP; rw [hok']; exact b1
          · show (rdQ (c :: r)).natAbs ≤ _
            unfold rdQ; rw [hok']; exact b2
        · cases h
      · split at h
        · cases h; exact ⟨by simp, by simp⟩
        · cases h

theorem stp_okN {l : List UInt8} {k : Nat} {m : Mk} (h : stp rdN l k = .mark m) : okN m := by
  cases l with
  | nil => simp [stp] at h
  | cons c r =>
    unfold stp at h
    dsimp only at h
    split at h
    · cases h
    · split at h
      · cases h
      · split at h
        · cases h
        · rename_i hm
          cases h
          unfold oneM at hm
          dsimp only at hm
          split at hm
          · exact runM_okN hm
          · unfold signM at hm
            split at hm
            · cases hm
            · cases hm; exact ⟨by simp, by simp⟩

theorem cut_okN : ∀ l k ms, cut rdN l k = .ok ms → ∀ m ∈ ms, okN m := by
  refine cut_ind rdN ?_ ?_ ?_ ?_
  · intro k ms h m hm; cases h; simp at hm; subst hm; exact ⟨by simp [endM], by simp [endM]⟩
  · intro l k h ms e; rw [cut_bad rdN h] at e; cases e
  · intro l k n h ih ms e; rw [cut_skip rdN h] at e; exact ih ms e
  · intro l k m h ih ms e
    rw [cut_mark rdN h] at e
    cases hc' : cut rdN (l.drop m.text.length) (k + m.text.length) with
    | bad j => rw [hc'] at e; cases e
    | ok ms' =>
      rw [hc'] at e
      cases e
      intro x hx
      simp only [List.cons_append, List.nil_append, List.mem_cons] at hx
      rcases hx with rfl | hx
      · exact stp_okN h
      · exact ih ms' hc' x hx

theorem okN_get {ms : List Mk} (h : ∀ m ∈ ms, okN m) : ∀ t, t < ms.length → okN (ms.getD t md) := by
  intro t ht
  rw [List.getD_eq_getElem?_getD, List.getElem?_eq_getElem ht]
  exact h _ (List.getElem_mem _)

theorem cut_few : ∀ l k ms, cut rdN l k = .ok ms → ms.length ≤ l.length + 1 := by
  refine cut_ind rdN ?_ ?_ ?_ ?_
  · intro k ms h; cases h; simp
  · intro l k h ms e; rw [cut_bad rdN h] at e; cases e
  · intro l k n h ih ms e; rw [cut_skip rdN h] at e; have := ih ms e; rw [List.length_drop] at this; omega
  · intro l k m h ih ms e
    obtain ⟨h1, h2, _⟩ := stp_mark rdN h
    rw [cut_mark rdN h] at e
    cases hc' : cut rdN (l.drop m.text.length) (k + m.text.length) with
    | bad j => rw [hc'] at e; cases e
    | ok ms' =>
      rw [hc'] at e
      cases e
      have := ih ms' hc'
      rw [List.length_drop] at this
      simp
      omega
end Go.Proofs.YtdimjpakgbebcaaDoor
