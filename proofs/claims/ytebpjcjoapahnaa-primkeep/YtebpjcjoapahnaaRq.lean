/-
  The walk of the document's quotient; conjugates and the order, whatever the words.
-/
import Derived.Test.YtebpjcjoapahnaaHd
import Derived.Deep.RegionWith
namespace Go.Proofs.Ytebpjcjoapahnaa
open Go.RowKit
open Ieee

/-- What Conj and Less answer. -/
def cR (a b : Nat) : Nat := if vc a b then a else 0
def cI (a b : Nat) : Nat := if vc a b then cj b else 0
def cE (a b : Nat) : Int := if vc a b then 0 else 3
def lB (a b c d : Nat) : Bool := if valid4 a b c d then ltW a b c d else false
def lE (a b c d : Nat) : Int := if valid4 a b c d then 0 else 3

theorem conj_any (a b : Nat) (w : World) (ha : a < 2 ^ 64) (hb : b < 2 ^ 64) :
    Calls Try.prog 27 #[.complex .f64 a b] w fun e w' => e = .returned (.tuple #[.complex .f64 (cR a b) (cI a b), .int .i64 (cE a b)]) ∧ w' = w := by
  by_cases h : vc a b = true
  · have e1 : cR a b = a := by unfold cR; rw [h]; rfl
    have e2 : cI a b = cj b := by unfold cI; rw [h]; rfl
    have e3 : cE a b = 0 := by unfold cE; rw [h]; rfl
    rw [e1, e2, e3]
    exact conj_yes a b w h
  · have h' : vc a b = false := by simpa using h
    have e1 : cR a b = 0 := by unfold cR; rw [h']; rfl
    have e2 : cI a b = 0 := by unfold cI; rw [h']; rfl
    have e3 : cE a b = 3 := by unfold cE; rw [h']; rfl
    rw [e1, e2, e3]
    exact conj_no a b w ha hb h'

theorem less_any (a b c d : Nat) (w : World) (ha : a < 2 ^ 64) (hb : b < 2 ^ 64) (hc : c < 2 ^ 64) (hd : d < 2 ^ 64) :
    Calls Try.prog 26 #[.complex .f64 a b, .complex .f64 c d] w fun e w' => e = .returned (.tuple #[.bool (lB a b c d), .int .i64 (lE a b c d)]) ∧ w' = w := by
  by_cases h : valid4 a b c d = true
  · have e1 : lB a b c d = ltW a b c d := by unfold lB; rw [h]; rfl
    have e2 : lE a b c d = 0 := by unfold lE; rw [h]; rfl
    rw [e1, e2]
    rw [valid4_vc] at h
    simp at h
    exact less_yes a b c d w h.1 h.2
  · have h' : valid4 a b c d = false := by simpa using h
    have e1 : lB a b c d = false := by unfold lB; rw [h']; rfl
    have e2 : lE a b c d = 3 := by unfold lE; rw [h']; rfl
    rw [e1, e2]
    exact less_no a b c d w ha hb hc hd h'

set_option maxHeartbeats 1000000 in
theorem refquo_zero (p q : Int) (w : World) :
    Calls Try.prog 39 #[.agg #[.int .i64 p, .int .i64 q], .agg #[.int .i64 0, .int .i64 0]] w fun e w' => e = .returned (.tuple #[.agg #[.int .i64 0, .int .i64 0], .int .i64 51]) ∧ Below w.heap.size w w' := by
  go_enter Try.func39, Try.ntmps39
  go_wp2
  exact bodyPost_ret (v := .tuple #[.agg #[.int .i64 0, .int .i64 0], .int .i64 51]) (by simp [results, Try.results39, go_sem]) rfl ⟨rfl, bal (bal (bal (Below.refl _ _)))⟩

theorem wrap_id {n : Int} (h : n.natAbs ≤ 562949953421312) : IntKind.i64.wrap n = n := by
  rw [IntKind.wrap_i64]; omega

set_option maxHeartbeats 1000000 in
theorem refquo_main (p q r s N X Y : Int) (w : World) (hp : p.natAbs ≤ 16777216) (hq : q.natAbs ≤ 16777216) (hr : r.natAbs ≤ 16777216) (hs : s.natAbs ≤ 16777216)
    (eN : r * r + s * s = N) (eX : p * r + q * s = X) (eY : q * r - p * s = Y) (h0 : 0 < N) :
    Calls Try.prog 39 #[.agg #[.int .i64 p, .int .i64 q], .agg #[.int .i64 r, .int .i64 s]] w fun e w' =>
      (X.tmod N = 0 ∧ Y.tmod N = 0 → e = .returned (.tuple #[.agg #[.int .i64 (inX (X.tdiv N) (Y.tdiv N)), .int .i64 (inY (X.tdiv N) (Y.tdiv N))], .int .i64 (ansE (X.tdiv N) (Y.tdiv N))])) ∧
      (¬ (X.tmod N = 0 ∧ Y.tmod N = 0) → e = .returned (.tuple #[.agg #[.int .i64 0, .int .i64 0], .int .i64 51])) ∧ Below w.heap.size w w' := by
  have b1 := bound_mul hp hr
  have b2 := bound_mul hq hs
  have b3 := bound_mul hp hs
  have b4 := bound_mul hq hr
  have b5 := bound_mul hr hr
  have b6 := bound_mul hs hs
  have hN0 : ¬ N = 0 := by omega
  have hNb : (N == 0) = false := by simpa using hN0
  have hN : N.natAbs ≤ 562949953421312 := by omega
  have hX : X.natAbs ≤ 562949953421312 := by omega
  have hY : Y.natAbs ≤ 562949953421312 := by omega
  have dX : (X.tdiv N).natAbs ≤ 562949953421312 := by rw [Int.natAbs_tdiv]; exact Nat.le_trans (Nat.div_le_self _ _) hX
  have dY : (Y.tdiv N).natAbs ≤ 562949953421312 := by rw [Int.natAbs_tdiv]; exact Nat.le_trans (Nat.div_le_self _ _) hY
  by_cases t1 : X.tmod N = 0
  · by_cases t2 : Y.tmod N = 0
    · have hT : Hid (X.tmod N = 0 ∧ Y.tmod N = 0) := ⟨t1, t2⟩
      have tb1 : (X.tmod N != 0) = false := by simpa using t1
      have tb2 : (Y.tmod N != 0) = false := by simpa using t2
      clear t1 t2
      go_enter Try.func39, Try.ntmps39
      go_wp2
      go_region_with (go_at_call 49; refine (in_any _ _ _).mono ?_; rintro _ w' ⟨rfl, rfl⟩)
      go_wp2
      have wX := wrap_id dX
      have wY := wrap_id dY
      refine bodyPost_ret (v := .tuple #[.agg #[.int .i64 (inX (X.tdiv N) (Y.tdiv N)), .int .i64 (inY (X.tdiv N) (Y.tdiv N))], .int .i64 (ansE (X.tdiv N) (Y.tdiv N))]) (by simp [results, Try.results39, go_sem, wX, wY]) rfl ⟨fun _ => rfl, fun h => absurd hT.out h, ?_⟩
      repeat (first | exact Below.refl _ _ | refine bal ?_ | refine below_drewN ?_ _ | refine Below.drew ?_)
    · have hT : Hid (¬ (X.tmod N = 0 ∧ Y.tmod N = 0)) := fun h => t2 h.2
      have tb1 : (X.tmod N != 0) = false := by simpa using t1
      have tb2 : (Y.tmod N != 0) = true := by simpa using t2
      clear t1 t2
      go_enter Try.func39, Try.ntmps39
      go_wp2
      exact bodyPost_ret (v := .tuple #[.agg #[.int .i64 0, .int .i64 0], .int .i64 51]) (by simp [results, Try.results39, go_sem]) rfl ⟨fun h => absurd h hT.out, fun _ => rfl, bal (bal (bal (Below.refl _ _)))⟩
  · have hT : Hid (¬ (X.tmod N = 0 ∧ Y.tmod N = 0)) := fun h => t1 h.1
    have tb1 : (X.tmod N != 0) = true := by simpa using t1
    clear t1
    go_enter Try.func39, Try.ntmps39
    go_wp2
    exact bodyPost_ret (v := .tuple #[.agg #[.int .i64 0, .int .i64 0], .int .i64 51]) (by simp [results, Try.results39, go_sem]) rfl ⟨fun h => absurd h hT.out, fun _ => rfl, bal (bal (bal (Below.refl _ _)))⟩

theorem quo_bad_facts {a b c d : Nat} (h : valid4 a b c d = false) : quoE a b c d = 3 ∧ quoR a b c d = 0 ∧ quoI a b c d = 0 := by
  have e : quoE a b c d = 3 := by unfold quoE; rw [h]; rfl
  exact ⟨e, by unfold quoR; rw [e]; rfl, by unfold quoI; rw [e]; rfl⟩

theorem quo_told {a b c d : Nat} (h : valid4 a b c d = true) (h0 : ¬ (nb c = 0 ∧ nb d = 0)) (ht : quoT (nb a) (nb b) (nb c) (nb d) = true) {x y : Int}
    (hx : (qX (nb a) (nb b) (nb c) (nb d)).tdiv (qN (nb c) (nb d)) = x) (hy : (qY (nb a) (nb b) (nb c) (nb d)).tdiv (qN (nb c) (nb d)) = y) :
    quoE a b c d = ansE x y ∧ quoR a b c d = fl (inX x y) ∧ quoI a b c d = fl (inY x y) := by
  have e : quoE a b c d = ansE x y := by unfold quoE ansE; rw [h, ht, hx, hy, if_neg h0]; rfl
  refine ⟨e, ?_, ?_⟩
  · unfold quoR inX; rw [e, hx]; unfold ansE
    cases okC x y <;> rfl
  · unfold quoI inY; rw [e, hy]; unfold ansE
    cases okC x y <;> rfl

theorem quo_trap {a b c d : Nat} (h : quoE a b c d = 51) : quoE a b c d = 51 ∧ quoR a b c d = fl 0 ∧ quoI a b c d = fl 0 :=
  ⟨h, by unfold quoR; rw [h]; rfl, by unfold quoI; rw [h]; rfl⟩

theorem refquo_w (a b c d : Nat) (w : World) (h : valid4 a b c d = true) :
    Calls Try.prog 39 #[.agg #[.int .i64 (nb a), .int .i64 (nb b)], .agg #[.int .i64 (nb c), .int .i64 (nb d)]] w fun e w' => ∃ U V E : Int, Hid (quoE a b c d = E ∧ quoR a b c d = fl U ∧ quoI a b c d = fl V) ∧ e = .returned (.tuple #[.agg #[.int .i64 U, .int .i64 V], .int .i64 E]) ∧ Below w.heap.size w w' := by
  obtain ⟨va, vb, vcc, vd⟩ := valid4_parts h
  have ba := (vp_true va).1
  have bb := (vp_true vb).1
  have bc := (vp_true vcc).1
  have bd := (vp_true vd).1
  by_cases h0 : nb c = 0 ∧ nb d = 0
  · have eq : quoE a b c d = 51 := by unfold quoE; rw [h, if_pos h0]; rfl
    rw [h0.1, h0.2]
    refine (refquo_zero (nb a) (nb b) w).mono ?_
    rintro e w' ⟨rfl, hb⟩
    exact ⟨0, 0, 51, quo_trap eq, rfl, hb⟩
  · have s1 := sq_bounds (nb c) bc
    have s2 := sq_bounds (nb d) bd
    have eN : nb c * nb c + nb d * nb d = qN (nb c) (nb d) := by unfold qN; rw [Int.mul_neg]; omega
    have eX : nb a * nb c + nb b * nb d = qX (nb a) (nb b) (nb c) (nb d) := by unfold qX; rw [Int.mul_neg]; omega
    have eY : nb b * nb c - nb a * nb d = qY (nb a) (nb b) (nb c) (nb d) := by unfold qY; rw [Int.mul_neg]; omega
    have hN : 0 < qN (nb c) (nb d) := by
      rw [← eN]
      by_cases hz : nb c = 0
      · have := s2.2.2 (fun hd => h0 ⟨hz, hd⟩)
        omega
      · have := s1.2.2 hz
        omega
    refine (refquo_main (nb a) (nb b) (nb c) (nb d) _ _ _ w ba bb bc bd eN eX eY hN).mono ?_
    rintro e w' ⟨k1, k2, hb⟩
    by_cases ht : (qX (nb a) (nb b) (nb c) (nb d)).tmod (qN (nb c) (nb d)) = 0 ∧ (qY (nb a) (nb b) (nb c) (nb d)).tmod (qN (nb c) (nb d)) = 0
    · have hT : quoT (nb a) (nb b) (nb c) (nb d) = true := by unfold quoT; rw [ht.1, ht.2]; rfl
      exact ⟨_, _, _, quo_told h h0 hT rfl rfl, k1 ht, hb⟩
    · have hT : quoT (nb a) (nb b) (nb c) (nb d) = false := by
        unfold quoT
        rw [← Bool.decide_and]
        exact decide_eq_false ht
      have eq : quoE a b c d = 51 := by unfold quoE; rw [h, hT, if_neg h0]; rfl
      exact ⟨0, 0, 51, quo_trap eq, k2 ht, hb⟩
end Go.Proofs.Ytebpjcjoapahnaa
