/-
  The walk of Same.
-/
import Derived.Test.YtiikkbofcccjfaaRz
namespace Go.Proofs.Ytiikkbofcccjfaa
open Go.RowKit
open RowsM

/-- Are two rows one? -/
def sameR (n m : Int) (xs ys : List Nat) : Bool := (n == m) && (xs == ys)

theorem ext_getD {xs ys : List Nat} (hl : xs.length = ys.length) (h : ∀ j, j < xs.length → xs.getD j 0 = ys.getD j 0) : xs = ys := by
  apply List.ext_getElem hl
  intro i h1 h2
  have := h i h1
  rw [List.getD_eq_getElem?_getD, List.getD_eq_getElem?_getD, List.getElem?_eq_getElem h1, List.getElem?_eq_getElem h2] at this
  exact this

theorem len_beq {xs ys : List Nat} (h : xs.length ≠ ys.length) : (xs == ys) = false := by
  simp only [beq_eq_false_iff_ne]
  rintro rfl
  exact h rfl

set_option maxHeartbeats 1000000 in
theorem same_eq (n : Int) (L : Nat) (ao bo : Option Addr) (ca cb : Nat) (xs ys : List Nat) (w : World) (h : Rd w ao xs) (g : Rd w bo ys) (hl : L ≤ 17592186043904) (hx : xs.length = L) (hy : ys.length = L) :
    Calls Try.prog 44 #[.agg #[.int .i64 n, .slice ao L ca], .agg #[.int .i64 n, .slice bo L cb]] w fun e w' => e = .returned (.bool (xs == ys)) ∧ Below w.heap.size w w' := by
  obtain ⟨s1, s2⟩ := st_two w (.int .i64 n) (.slice ao L ca) (.int .i64 n) (.slice bo L cb)
  have b2 := below_two w (.cells #[.int .i64 n, .slice ao L ca] 41) (.cells #[.int .i64 n, .slice bo L cb] 41)
  have h2 := h.up b2
  have g2 := g.up b2
  clear h g
  obtain ⟨c, hc⟩ : ∃ c : Bool, c = (xs == ys) := ⟨_, rfl⟩
  rw [← hc]
  have HC : Hid (c = (xs == ys)) := hc
  clear hc
  obtain ⟨c0, c1, _, _⟩ := s1.cells
  obtain ⟨d0, d1, _, _⟩ := s2.cells
  clear s1 s2
  by_cases hz : xs = []
  · have h0 : L = 0 := by rw [← hx, hz]; rfl
    subst h0
    have hc : c = true := by rw [show c = _ from HC, hz, List.length_eq_zero_iff.1 hy]; rfl
    rw [hc]
    clear h2 g2 HC hx hy hz hc
    go_enter Try.func44, Try.ntmps44
    go_wp2
    refine wp_loop_rounds 1 ?_
    rw [rounds_succ]
    go_wp2
    go_ret
    exact ⟨rfl, b2⟩
  · have hzy : ys ≠ [] := by intro e; subst e; simp at hy; rw [← hy] at hx; exact hz (List.length_eq_zero_iff.1 hx)
    obtain ⟨ba, oa, rfl, hca⟩ := h2.pl hz
    obtain ⟨bb, ob, rfl, hcb⟩ := g2.pl hzy
    rw [hx] at hca
    rw [hy] at hcb
    have HL : Hid (xs.length = ys.length) := hx.trans hy.symm
    have HX0 : Hid (xs.length = L) := hx
    clear h2 g2 hx hy hz hzy
    go_enter Try.func44, Try.ntmps44
    go_wp2
    generalize ((w.alloc (.cells #[.int .i64 n, .slice (some ⟨ba, oa, none⟩) L ca] 41)).alloc (.cells #[.int .i64 n, .slice (some ⟨bb, ob, none⟩) L cb] 41)) = W2 at *
    go_loopw [5] (fun i wr => ∃ k : Nat, k ≤ L ∧ i = .int .i64 k ∧ (∃ nn, wr = W2.drewN nn) ∧ Hid (∀ j, j < k → xs.getD j 0 = ys.getD j 0)) (fun i _ => L - (intOf i).toNat)
    case atStart => exact ⟨0, Nat.zero_le _, rfl, ⟨0, rfl⟩, fun j hj => absurd hj (by omega)⟩
    case round =>
      obtain ⟨k, hk, rfl, ⟨nn, rfl⟩, hall⟩ := hrel
      by_cases hlt : k < L
      · obtain ⟨x, hxe⟩ : ∃ x, x = xs.getD k 0 := ⟨_, rfl⟩
        obtain ⟨y, hye⟩ : ∃ y, y = ys.getD k 0 := ⟨_, rfl⟩
        have ha := hca k hlt
        have hb := hcb k hlt
        rw [← hxe] at ha
        rw [← hye] at hb
        have HX : Hid (x = xs.getD k 0) := hxe
        have HY : Hid (y = ys.getD k 0) := hye
        clear hxe hye hca hcb
        by_cases hxy : x = y
        · subst hxy
          go_wp2_with fail
          go_quiet (fail)
          go_wp2
          go_roundw
          case rel =>
            refine ⟨k + 1, by omega, by go_num, ⟨_, rfl⟩, fun j hj => ?_⟩
            rcases Nat.lt_or_ge j k with h | h
            · exact (show ∀ j, j < k → _ from hall) j h
            · have e : j = k := by omega
              rw [e, ← show x = _ from HX, ← show x = _ from HY]
          case measure => simp [intOf]; omega
        · have hxy2 : ((x : Int) == (y : Int)) = false := by simp; omega
          go_wp2_with fail
          go_quiet (fail)
          go_wp2
          go_ret
          refine ⟨ret_bool ?_, below_drewN (below_drewN b2 _) _⟩
          rw [show c = _ from HC]
          symm
          simp only [beq_eq_false_iff_ne]
          intro e
          rw [show x = _ from HX, show y = _ from HY, e] at hxy
          exact hxy rfl
      · have hke : k = L := by omega
        subst hke
        clear hca hcb
        go_wp2
        go_ret
        refine ⟨ret_bool ?_, below_drewN b2 _⟩
        rw [show c = _ from HC, ext_getD HL (by rw [show xs.length = _ from HX0]; exact hall)]
        simp

set_option maxHeartbeats 1000000 in
theorem same_ne (n m : Int) (ao bo : Option Addr) (la lb ca cb : Nat) (w : World) (_hl : la ≤ 17592186043904) (_gl : lb ≤ 17592186043904) (hne : n ≠ m ∨ la ≠ lb) :
    Calls Try.prog 44 #[.agg #[.int .i64 n, .slice ao la ca], .agg #[.int .i64 m, .slice bo lb cb]] w fun e w' => e = .returned (.bool false) ∧ Below w.heap.size w w' := by
  have b2 := below_two w (.cells #[.int .i64 n, .slice ao la ca] 41) (.cells #[.int .i64 m, .slice bo lb cb] 41)
  obtain ⟨s1, s2⟩ := st_two w (.int .i64 n) (.slice ao la ca) (.int .i64 m) (.slice bo lb cb)
  obtain ⟨c0, c1, _, _⟩ := s1.cells
  obtain ⟨d0, d1, _, _⟩ := s2.cells
  clear s1 s2
  by_cases h1 : n = m
  · subst h1
    have h3' : ((la : Int) == (lb : Int)) = false := by simp; omega
    go_enter Try.func44, Try.ntmps44
    go_wp2
    go_ret
    exact ⟨rfl, b2⟩
  · have h1' : (n == m) = false := by simpa using h1
    go_enter Try.func44, Try.ntmps44
    go_wp2
    go_ret
    exact ⟨rfl, b2⟩

theorem same_any (n m : Int) (ao bo : Option Addr) (ca cb : Nat) (xs ys : List Nat) (w : World) (h : Rd w ao xs) (g : Rd w bo ys) (hl : xs.length ≤ 17592186043904) (gl : ys.length ≤ 17592186043904) :
    Calls Try.prog 44 #[.agg #[.int .i64 n, .slice ao xs.length ca], .agg #[.int .i64 m, .slice bo ys.length cb]] w fun e w' => e = .returned (.bool (sameR n m xs ys)) ∧ Below w.heap.size w w' := by
  by_cases h1 : n = m
  · subst h1
    by_cases h3 : xs.length = ys.length
    · have := same_eq n ys.length ao bo ca cb xs ys w h g gl h3 rfl
      rw [h3]
      unfold sameR
      rw [beq_self_eq_true, Bool.true_and]
      exact this
    · unfold sameR
      rw [len_beq h3, Bool.and_false]
      exact same_ne n n ao bo _ _ ca cb w hl gl (.inr h3)
  · unfold sameR
    rw [beq_eq_false_iff_ne.2 h1, Bool.false_and]
    exact same_ne n m ao bo _ _ ca cb w hl gl (.inl h1)
end Go.Proofs.Ytiikkbofcccjfaa
