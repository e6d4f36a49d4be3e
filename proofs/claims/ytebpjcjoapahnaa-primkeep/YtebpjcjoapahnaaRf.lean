/-
  The walks of the document's answers: a number of a float, sums, products, quotients, the order.
-/
import Derived.Test.YtebpjcjoapahnaaFr
import Derived.Test.YtebpjcjoapahnaaWc
namespace Go.Proofs.Ytebpjcjoapahnaa
open Go.RowKit
open Ieee

theorem bcell {W w1 : World} (hb : Below W.heap.size W w1) : (∀ b o, b < W.heap.size → w1.cell? ⟨b, o, none⟩ = W.cell? ⟨b, o, none⟩) ∧ (∀ b o, b < W.heap.size → w1.frozen? ⟨b, o, none⟩ = W.frozen? ⟨b, o, none⟩) :=
  ⟨fun b o h => hb.cell (p := ⟨b, o, none⟩) h, fun b o h => hb.frozen (p := ⟨b, o, none⟩) h⟩

/-- The parts that Of tells. -/
def ofX (a b : Nat) : Int := if vc a b then nb a else 0
def ofY (a b : Nat) : Int := if vc a b then nb b else 0

set_option maxHeartbeats 400000 in
theorem of_any (a b : Nat) (w : World) (ha : a < 2 ^ 64) (hb : b < 2 ^ 64) :
    Calls Try.prog 34 #[.complex .f64 a b] w fun e w' => e = .returned (.tuple #[.agg #[.int .i64 (ofX a b), .int .i64 (ofY a b)], .bool (vc a b)]) ∧ w' = w.alloc (.cells #[.int .i64 (ofX a b), .int .i64 (ofY a b)] 68) := by
  by_cases h1 : vp a = true
  · by_cases h2 : vp b = true
    · have e1 : ofX a b = nb a := by unfold ofX vc; rw [h1, h2]; rfl
      have e2 : ofY a b = nb b := by unfold ofY vc; rw [h1, h2]; rfl
      have e3 : vc a b = true := by unfold vc; rw [h1, h2]; rfl
      rw [e1, e2, e3]
      clear e1 e2 e3
      go_enter Try.func34, Try.ntmps34
      go_wp2_with fail
      refine (part_any _ _ ha).mono ?_
      rintro e w' ⟨n1, hn1, rfl, rfl⟩
      have hn1' := hn1 h1
      subst hn1'
      clear hn1
      go_wp2_with fail
      refine (part_any _ _ hb).mono ?_
      rintro e w' ⟨n2, hn2, rfl, rfl⟩
      have hn2' := hn2 h2
      subst hn2'
      clear hn2
      go_wp2_with fail
      exact bodyPost_ret (v := .tuple #[.agg #[.int .i64 (nb a), .int .i64 (nb b)], .bool true]) (by simp [results, Try.results34, go_sem]) rfl ⟨rfl, rfl⟩
    · have h2' : vp b = false := by simpa using h2
      have e3 : vc a b = false := by unfold vc; rw [h1, h2']; rfl
      have e1 : ofX a b = 0 := by unfold ofX; rw [e3]; rfl
      have e2 : ofY a b = 0 := by unfold ofY; rw [e3]; rfl
      rw [e1, e2, e3]
      clear e1 e2 e3 h2
      go_enter Try.func34, Try.ntmps34
      go_wp2_with fail
      refine (part_any _ _ ha).mono ?_
      rintro e w' ⟨n1, hn1, rfl, rfl⟩
      clear hn1
      go_wp2_with fail
      refine (part_any _ _ hb).mono ?_
      rintro e w' ⟨n2, hn2, rfl, rfl⟩
      clear hn2
      go_wp2_with fail
      exact bodyPost_ret (v := .tuple #[.agg #[.int .i64 0, .int .i64 0], .bool false]) (by simp [results, Try.results34, go_sem]) rfl ⟨rfl, rfl⟩
  · have h1' : vp a = false := by simpa using h1
    have e3 : vc a b = false := by unfold vc; rw [h1']; rfl
    have e1 : ofX a b = 0 := by unfold ofX; rw [e3]; rfl
    have e2 : ofY a b = 0 := by unfold ofY; rw [e3]; rfl
    rw [e1, e2, e3]
    clear e1 e2 e3 h1
    go_enter Try.func34, Try.ntmps34
    go_wp2_with fail
    refine (part_any _ _ ha).mono ?_
    rintro e w' ⟨n1, hn1, rfl, rfl⟩
    clear hn1
    go_wp2_with fail
    refine (part_any _ _ hb).mono ?_
    rintro e w' ⟨n2, hn2, rfl, rfl⟩
    clear hn2
    go_wp2_with fail
    all_goals exact bodyPost_ret (v := .tuple #[.agg #[.int .i64 0, .int .i64 0], .bool false]) (by simp [results, Try.results34, go_sem]) rfl ⟨rfl, rfl⟩

/-- What the document answers of a number that may be too great. -/
def inX (x y : Int) : Int := if okC x y then x else 0
def inY (x y : Int) : Int := if okC x y then y else 0

set_option maxHeartbeats 400000 in
theorem in_any (x y : Int) (w : World) :
    Calls Try.prog 49 #[.agg #[.int .i64 x, .int .i64 y]] w fun e w' => e = .returned (.tuple #[.agg #[.int .i64 (inX x y), .int .i64 (inY x y)], .int .i64 (ansE x y)]) ∧ w' = (w.alloc (.cells #[.int .i64 x, .int .i64 y] 68)).alloc (.cells #[.int .i64 (inX x y), .int .i64 (inY x y)] 68) := by
  by_cases h : okC x y = true
  · have e1 : inX x y = x := by unfold inX; rw [h]; rfl
    have e2 : inY x y = y := by unfold inY; rw [h]; rfl
    have e3 : ansE x y = 0 := by unfold ansE; rw [h]; rfl
    rw [e1, e2, e3]
    obtain ⟨b1, b2⟩ := okC_iff.1 h
    have h1 : ¬ x < -16777216 := by omega
    have h2 : ¬ 16777216 < x := by omega
    have h3 : ¬ y < -16777216 := by omega
    have h4 : ¬ 16777216 < y := by omega
    clear e1 e2 e3 h b1 b2
    go_enter Try.func49, Try.ntmps49
    go_wp2
    exact bodyPost_ret (v := .tuple #[.agg #[.int .i64 x, .int .i64 y], .int .i64 0]) (by simp [results, Try.results49, go_sem]) rfl ⟨rfl, rfl⟩
  · have h' : okC x y = false := by simpa using h
    have e1 : inX x y = 0 := by unfold inX; rw [h']; rfl
    have e2 : inY x y = 0 := by unfold inY; rw [h']; rfl
    have e3 : ansE x y = 50 := by unfold ansE; rw [h']; rfl
    rw [e1, e2, e3]
    have hb : ¬ (x.natAbs ≤ 16777216 ∧ y.natAbs ≤ 16777216) := fun hc => h (okC_iff.2 hc)
    have h1 : x < -16777216 ∨ 16777216 < x ∨ y < -16777216 ∨ 16777216 < y := by omega
    clear e1 e2 e3 h h' hb
    go_enter Try.func49, Try.ntmps49
    go_wp2
    all_goals first | (exact bodyPost_ret (v := .tuple #[.agg #[.int .i64 0, .int .i64 0], .int .i64 50]) (by simp [results, Try.results49, go_sem]) rfl ⟨rfl, rfl⟩) | (exfalso; omega)

set_option maxHeartbeats 400000 in
theorem refz_any (x y : Int) (w : World) :
    Calls Try.prog 48 #[.agg #[.int .i64 x, .int .i64 y]] w fun e w' => e = .returned (.complex .f64 (fl x) (fl y)) ∧ w' = w.alloc (.cells #[.int .i64 x, .int .i64 y] 68) := by
  rw [← fl_conv, ← fl_conv]
  go_enter Try.func48, Try.ntmps48
  go_wp2
  go_ret
  exact ⟨rfl, rfl⟩

theorem bal {w w1 : World} {o : Obj} (h : Below w.heap.size w w1) : Below w.heap.size w (w1.alloc o) := h.alloc h.size o

set_option maxHeartbeats 400000 in
theorem refadd_any (p q r s : Int) (w : World) (hp : p.natAbs ≤ 16777216) (hq : q.natAbs ≤ 16777216) (hr : r.natAbs ≤ 16777216) (hs : s.natAbs ≤ 16777216) :
    Calls Try.prog 36 #[.agg #[.int .i64 p, .int .i64 q], .agg #[.int .i64 r, .int .i64 s]] w fun e w' => e = .returned (.tuple #[.agg #[.int .i64 (inX (p + r) (q + s)), .int .i64 (inY (p + r) (q + s))], .int .i64 (ansE (p + r) (q + s))]) ∧ Below w.heap.size w w' := by
  go_enter Try.func36, Try.ntmps36
  go_wp2_with (go_at_call 49; refine (in_any _ _ _).mono ?_; rintro _ w' ⟨rfl, rfl⟩)
  exact bodyPost_ret (v := .tuple #[.agg #[.int .i64 (inX (p + r) (q + s)), .int .i64 (inY (p + r) (q + s))], .int .i64 (ansE (p + r) (q + s))]) (by simp [results, Try.results36, go_sem]) rfl
    ⟨rfl, bal (bal (bal (bal (bal (Below.refl _ _)))))⟩

set_option maxHeartbeats 400000 in
theorem refsub_any (p q r s : Int) (w : World) (hp : p.natAbs ≤ 16777216) (hq : q.natAbs ≤ 16777216) (hr : r.natAbs ≤ 16777216) (hs : s.natAbs ≤ 16777216) :
    Calls Try.prog 37 #[.agg #[.int .i64 p, .int .i64 q], .agg #[.int .i64 r, .int .i64 s]] w fun e w' => e = .returned (.tuple #[.agg #[.int .i64 (inX (p - r) (q - s)), .int .i64 (inY (p - r) (q - s))], .int .i64 (ansE (p - r) (q - s))]) ∧ Below w.heap.size w w' := by
  go_enter Try.func37, Try.ntmps37
  go_wp2_with (go_at_call 49; refine (in_any _ _ _).mono ?_; rintro _ w' ⟨rfl, rfl⟩)
  exact bodyPost_ret (v := .tuple #[.agg #[.int .i64 (inX (p - r) (q - s)), .int .i64 (inY (p - r) (q - s))], .int .i64 (ansE (p - r) (q - s))]) (by simp [results, Try.results37, go_sem]) rfl
    ⟨rfl, bal (bal (bal (bal (bal (Below.refl _ _)))))⟩

set_option maxHeartbeats 400000 in
theorem refmul_any (p q r s : Int) (w : World) (hp : p.natAbs ≤ 16777216) (hq : q.natAbs ≤ 16777216) (hr : r.natAbs ≤ 16777216) (hs : s.natAbs ≤ 16777216) :
    Calls Try.prog 38 #[.agg #[.int .i64 p, .int .i64 q], .agg #[.int .i64 r, .int .i64 s]] w fun e w' => e = .returned (.tuple #[.agg #[.int .i64 (inX (p * r - q * s) (p * s + q * r)), .int .i64 (inY (p * r - q * s) (p * s + q * r))], .int .i64 (ansE (p * r - q * s) (p * s + q * r))]) ∧ Below w.heap.size w w' := by
  have b1 := bound_mul hp hr
  have b2 := bound_mul hq hs
  have b3 := bound_mul hp hs
  have b4 := bound_mul hq hr
  go_enter Try.func38, Try.ntmps38
  go_wp2_with (go_at_call 49; refine (in_any _ _ _).mono ?_; rintro _ w' ⟨rfl, rfl⟩)
  exact bodyPost_ret (v := .tuple #[.agg #[.int .i64 (inX (p * r - q * s) (p * s + q * r)), .int .i64 (inY (p * r - q * s) (p * s + q * r))], .int .i64 (ansE (p * r - q * s) (p * s + q * r))]) (by simp [results, Try.results38, go_sem]) rfl
    ⟨rfl, bal (bal (bal (bal (bal (Below.refl _ _)))))⟩

set_option maxHeartbeats 400000 in
theorem refless_any (p q r s : Int) (w : World) :
    Calls Try.prog 41 #[.agg #[.int .i64 p, .int .i64 q], .agg #[.int .i64 r, .int .i64 s]] w fun e w' => e = .returned (.bool (decide (p < r ∨ p = r ∧ q < s))) ∧ Below w.heap.size w w' := by
  go_enter Try.func41, Try.ntmps41
  go_wp2
  all_goals (go_ret; refine ⟨ret_bool ?_, bal (bal (Below.refl _ _))⟩; refine Bool.eq_iff_iff.2 ?_; first | (simp; done) | (simp; omega))
end Go.Proofs.Ytebpjcjoapahnaa
