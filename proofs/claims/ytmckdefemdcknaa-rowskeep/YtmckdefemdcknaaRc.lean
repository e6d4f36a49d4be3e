/-
  The walks of Below, Join and Meet.
-/
import Derived.Test.YtmckdefemdcknaaRb
import Derived.LoopTactic
namespace Go.Proofs.Ytmckdefemdcknaa
open Go.RowKit
open RowsM

/-- Is each word below the other's one? -/
def belowL (xs ys : List Nat) : Bool := decide (∀ k, k < xs.length → aboveN (xs.getD k 0) (ys.getD k 0) = 0)

theorem okP_len {n m : Int} {xs ys : List Nat} (h : okP n m xs ys = true) : xs.length = ys.length := by
  simp only [okP, okR, Bool.and_eq_true, decide_eq_true_eq, beq_iff_eq] at h
  obtain ⟨⟨⟨_, _, h1, _⟩, _, _, h2, _⟩, rfl⟩ := h
  omega

theorem ret_two {a b : Bool} {k : IntKind} {x y : Int} (h : b = a) (g : y = x) : Ending.returned (.tuple #[.bool a, .int k x]) = .returned (.tuple #[.bool b, .int k y]) := by rw [h, g]

set_option maxHeartbeats 1000000 in
theorem below_any (n m : Int) (ao bo : Option Addr) (ca cb : Nat) (xs ys : List Nat) (w : World) (h : Rd w ao xs) (g : Rd w bo ys) (hl : xs.length ≤ 17592186043904) (gl : ys.length ≤ 17592186043904) :
    Calls Try.prog 22 #[.agg #[.int .i64 n, .slice ao xs.length ca], .agg #[.int .i64 m, .slice bo ys.length cb]] w fun e w' => e = .returned (.tuple #[.bool (okP n m xs ys && belowL xs ys), .int .i64 (if okP n m xs ys then 0 else 3)]) ∧ Below w.heap.size w w' := by
  obtain ⟨s1, s2⟩ := st_two w (.int .i64 n) (.slice ao xs.length ca) (.int .i64 m) (.slice bo ys.length cb)
  have b2 := below_two w (.cells #[.int .i64 n, .slice ao xs.length ca] 24) (.cells #[.int .i64 m, .slice bo ys.length cb] 24)
  have h2 := h.up b2
  have g2 := g.up b2
  clear h g
  obtain ⟨r, hr⟩ : ∃ r : Int, r = (if okP n m xs ys then 0 else 3) := ⟨_, rfl⟩
  obtain ⟨c, hc⟩ : ∃ c : Bool, c = (okP n m xs ys && belowL xs ys) := ⟨_, rfl⟩
  rw [← hr, ← hc]
  have HR : Hid (r = (if okP n m xs ys then 0 else 3)) := hr
  have HC : Hid (c = (okP n m xs ys && belowL xs ys)) := hc
  clear hr hc
  go_enter Try.func22, Try.ntmps22
  go_wp2_with fail
  refine (checkPair_any n m ao bo ca cb xs ys _ h2 g2 hl gl).mono ?_
  rintro e w1 ⟨rfl, hb1⟩
  have s1' := s1.up hb1
  have s2' := s2.up hb1
  have h3 := h2.up hb1
  have g3 := g2.up hb1
  have b3 := Below.thn b2 hb1
  clear s1 s2 h2 g2 hb1 b2
  obtain ⟨c0, c1, _, _⟩ := s1'.cells
  obtain ⟨d0, d1, _, _⟩ := s2'.cells
  clear s1' s2'
  cases hx : okP n m xs ys with
  | false =>
    go_wp2
    go_ret2
    exact ⟨ret_two (by rw [show c = _ from HC, hx]; rfl) (by rw [show r = _ from HR, hx]; rfl), b3⟩
  | true =>
    have hlen := okP_len hx
    by_cases hz : xs = []
    · have hc : c = true := by rw [show c = _ from HC, hx]; subst hz; simp [belowL]
      have hr : r = 0 := by rw [show r = _ from HR, hx]; rfl
      subst hz hc hr
      clear h3 g3 hlen
      go_wp2
      refine wp_loop_rounds 1 ?_
      rw [rounds_succ]
      go_wp2
      go_ret2
      exact ⟨rfl, b3⟩
    · have hzy : ys ≠ [] := by intro e; subst e; simp at hlen; exact hz hlen
      obtain ⟨ba, oa, rfl, hca⟩ := h3.pl hz
      obtain ⟨bb, ob, rfl, hcb⟩ := g3.pl hzy
      have hxl := h3.get_lt
      have hyl := g3.get_lt
      clear h3 g3
      have HL : Hid (xs.length = ys.length) := hlen
      clear hlen
      go_wp2
      go_loop [18] (fun i => ∃ k : Nat, k ≤ xs.length ∧ i = .int .i64 k ∧ Hid (∀ j, j < k → aboveN (xs.getD j 0) (ys.getD j 0) = 0)) (fun i => xs.length - (intOf i).toNat)
      case atStart => exact ⟨0, Nat.zero_le _, rfl, fun j hj => absurd hj (by omega)⟩
      case round =>
        obtain ⟨k, hk, rfl, hall⟩ := hrel
        by_cases hlt : k < xs.length
        · obtain ⟨x, hxe⟩ : ∃ x, x = xs.getD k 0 := ⟨_, rfl⟩
          obtain ⟨y, hye⟩ : ∃ y, y = ys.getD k 0 := ⟨_, rfl⟩
          have ha := hca k hlt
          have hb := hcb k (by rw [← show xs.length = _ from HL]; exact hlt)
          have hx0 := hxl k
          have hy0 := hyl k
          rw [← hxe] at ha hx0
          rw [← hye] at hb hy0
          have HX : Hid (x = xs.getD k 0) := hxe
          have HY : Hid (y = ys.getD k 0) := hye
          clear hxe hye hca hcb hxl hyl
          have hlt2 : k < ys.length := by rw [← show xs.length = _ from HL]; exact hlt
          by_cases hab : aboveN x y = 0
          · go_wp2_with (go_at_call 39; refine (above_any x y _ hx0 hy0).mono ?_; rintro e w' ⟨rfl, rfl⟩)
            go_round
            case rel =>
              refine ⟨k + 1, by omega, by go_num, fun j hj => ?_⟩
              rcases Nat.lt_or_ge j k with h | h
              · exact (show ∀ j, j < k → _ from hall) j h
              · have e : j = k := by omega
                rw [e, ← show x = _ from HX, ← show y = _ from HY]
                exact hab
            case measure => simp [intOf]; omega
          · have hab2 : (((aboveN x y : Nat) : Int) != 0) = true := nz_int hab
            go_wp2_with (go_at_call 39; refine (above_any x y _ hx0 hy0).mono ?_; rintro e w' ⟨rfl, rfl⟩)
            go_ret2
            refine ⟨ret_two ?_ (by rw [show r = _ from HR, hx]; rfl), b3⟩
            rw [show c = _ from HC, hx]
            simp only [belowL, Bool.true_and, decide_eq_false_iff_not]
            intro h
            have := h k hlt
            rw [← show x = _ from HX, ← show y = _ from HY] at this
            exact hab this
        · have hke : k = xs.length := by omega
          subst hke
          go_wp2
          go_ret2
          exact ⟨ret_two (by rw [show c = _ from HC, hx]; simp only [belowL, Bool.true_and, decide_eq_true_eq]; exact hall) (by rw [show r = _ from HR, hx]; rfl), b3⟩

end Go.Proofs.Ytmckdefemdcknaa
