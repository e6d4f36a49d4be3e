/-
  The four units: what dividing by one gives, four times over.
-/
import Derived.Test.YtmmcpganhfflmaaDoorWq
import Derived.Test.YtmmcpganhfflmaaDoorAl
namespace Go.Proofs.YtmmcpganhfflmaaDoor
open Go.RowKit
open Ieee

/-- The units. -/
def isU (u v : Int) : Bool := (u == 1 && v == 0) || (u == -1 && v == 0) || (u == 0 && v == 1) || (u == 0 && v == -1)

theorem isU_cases {u v : Int} (h : isU u v = true) : (u = 1 ∧ v = 0) ∨ (u = -1 ∧ v = 0) ∨ (u = 0 ∧ v = 1) ∨ (u = 0 ∧ v = -1) := by
  unfold isU at h
  simp at h
  omega

/-- What dividing by a unit gives. -/
def stX (u v P Q : Int) : Int := P * u + Q * v
def stY (u v P Q : Int) : Int := Q * u - P * v

theorem st_bound {u v P Q : Int} (h : isU u v = true) (hP : P.natAbs ≤ 16777216) (hQ : Q.natAbs ≤ 16777216) : (stX u v P Q).natAbs ≤ 16777216 ∧ (stY u v P Q).natAbs ≤ 16777216 := by
  unfold stX stY
  rcases isU_cases h with ⟨rfl, rfl⟩ | ⟨rfl, rfl⟩ | ⟨rfl, rfl⟩ | ⟨rfl, rfl⟩ <;> constructor <;> omega

/-- Over and over. -/
def itX (u v : Int) : Nat → Int → Int → Int
  | 0, p, _ => p
  | n + 1, p, q => itX u v n (stX u v p q) (stY u v p q)
def itY (u v : Int) : Nat → Int → Int → Int
  | 0, _, q => q
  | n + 1, p, q => itY u v n (stX u v p q) (stY u v p q)

theorem it_succ (u v : Int) (n : Nat) : ∀ p q, itX u v (n + 1) p q = stX u v (itX u v n p q) (itY u v n p q) ∧ itY u v (n + 1) p q = stY u v (itX u v n p q) (itY u v n p q) := by
  induction n with
  | zero => intro p q; exact ⟨rfl, rfl⟩
  | succ n ih =>
    intro p q
    have := ih (stX u v p q) (stY u v p q)
    exact this

theorem it_bound {u v p q : Int} (h : isU u v = true) (hp : p.natAbs ≤ 16777216) (hq : q.natAbs ≤ 16777216) (n : Nat) : (itX u v n p q).natAbs ≤ 16777216 ∧ (itY u v n p q).natAbs ≤ 16777216 := by
  induction n with
  | zero => exact ⟨hp, hq⟩
  | succ n ih =>
    obtain ⟨e1, e2⟩ := it_succ u v n p q
    rw [e1, e2]
    exact st_bound h ih.1 ih.2

theorem it_four {u v p q : Int} (h : isU u v = true) : itX u v 4 p q = p ∧ itY u v 4 p q = q := by
  simp only [itX, itY, stX, stY]
  rcases isU_cases h with ⟨rfl, rfl⟩ | ⟨rfl, rfl⟩ | ⟨rfl, rfl⟩ | ⟨rfl, rfl⟩ <;> constructor <;> omega

theorem vp_lt {b : Nat} (h : vp b = true) : b < 2 ^ 64 := by
  obtain ⟨h1, h2⟩ := vp_true h
  rw [h2]
  exact fl_lt _ (by omega)

theorem isU_le {u v : Int} (h : isU u v = true) : u.natAbs ≤ 16777216 ∧ v.natAbs ≤ 16777216 := by
  rcases isU_cases h with ⟨rfl, rfl⟩ | ⟨rfl, rfl⟩ | ⟨rfl, rfl⟩ | ⟨rfl, rfl⟩ <;> decide

/-- A quotient of numbers that comes out whole. -/
theorem quo_whole {p q r s x y : Int} (hp : p.natAbs ≤ 16777216) (hq : q.natAbs ≤ 16777216) (hr : r.natAbs ≤ 16777216) (hs : s.natAbs ≤ 16777216) (hx : x.natAbs ≤ 16777216) (hy : y.natAbs ≤ 16777216)
    (h0 : ¬ (r = 0 ∧ s = 0)) (hX : qX p q r s = x * qN r s) (hY : qY p q r s = y * qN r s) :
    quoAns (fl p) (fl q) (fl r) (fl s) = .returned (.tuple #[.complex .f64 (fl x) (fl y), .int .i64 0]) := by
  have e1 := nb_fl p (by omega)
  have e2 := nb_fl q (by omega)
  have e3 := nb_fl r (by omega)
  have e4 := nb_fl s (by omega)
  have hN : qN r s ≠ 0 := by
    have s1 := sq_bounds r hr
    have s2 := sq_bounds s hs
    unfold qN
    rw [Int.mul_neg]
    by_cases hz : r = 0
    · have := s2.2.2 (fun h => h0 ⟨hz, h⟩)
      omega
    · have := s1.2.2 hz
      omega
  have ok : okC x y = true := okC_iff.2 ⟨hx, hy⟩
  have := quoAns_good (a := fl p) (b := fl q) (c := fl r) (d := fl s) (valid4_mk (vp_fl p hp) (vp_fl q hq) (vp_fl r hr) (vp_fl s hs)) (by rw [e3, e4]; exact h0)
    (by rw [e1, e2, e3, e4]; unfold quoT; rw [hX, hY, Int.mul_tmod_left, Int.mul_tmod_left]; rfl) (x := x) (y := y)
    (by rw [e1, e2, e3, e4, hX]; exact Int.mul_tdiv_cancel _ hN) (by rw [e1, e2, e3, e4, hY]; exact Int.mul_tdiv_cancel _ hN)
  rw [this]
  unfold ansV ansE
  rw [ok]; rfl

theorem unit_quo (P Q u v : Int) (U V : Nat) (hU : U = fl u) (hV : V = fl v) (hu : isU u v = true) (hP : P.natAbs ≤ 16777216) (hQ : Q.natAbs ≤ 16777216) (w : World) :
    Calls Tryd.prog 24 #[.complex .f64 (fl P) (fl Q), .complex .f64 U V] w fun e w' => e = .returned (.tuple #[.complex .f64 (fl (stX u v P Q)) (fl (stY u v P Q)), .int .i64 0]) ∧ ∃ n, w' = w.drewN n := by
  subst hU hV
  obtain ⟨lu, lv⟩ := isU_le hu
  obtain ⟨b1, b2⟩ := st_bound hu hP hQ
  have := quo_any (fl P) (fl Q) (fl u) (fl v) w (fl_lt _ (by omega)) (fl_lt _ (by omega)) (fl_lt _ (by omega)) (fl_lt _ (by omega))
  rw [quo_whole hP hQ lu lv b1 b2 (by rcases isU_cases hu with ⟨rfl, rfl⟩ | ⟨rfl, rfl⟩ | ⟨rfl, rfl⟩ | ⟨rfl, rfl⟩ <;> decide)
    (by unfold qX stX qN; rcases isU_cases hu with ⟨rfl, rfl⟩ | ⟨rfl, rfl⟩ | ⟨rfl, rfl⟩ | ⟨rfl, rfl⟩ <;> omega)
    (by unfold qY stY qN; rcases isU_cases hu with ⟨rfl, rfl⟩ | ⟨rfl, rfl⟩ | ⟨rfl, rfl⟩ | ⟨rfl, rfl⟩ <;> omega)] at this
  exact this

theorem unit_mul (P Q u v : Int) (U V : Nat) (hU : U = fl u) (hV : V = fl v) (hu : isU u v = true) (hP : P.natAbs ≤ 16777216) (hQ : Q.natAbs ≤ 16777216) (w : World) :
    Calls Tryd.prog 18 #[.complex .f64 (fl (stX u v P Q)) (fl (stY u v P Q)), .complex .f64 U V] w fun e w' => e = .returned (.tuple #[.complex .f64 (fl P) (fl Q), .int .i64 0]) ∧ w' = w := by
  subst hU hV
  obtain ⟨lu, lv⟩ := isU_le hu
  obtain ⟨b1, b2⟩ := st_bound hu hP hQ
  have := mul_any (fl (stX u v P Q)) (fl (stY u v P Q)) (fl u) (fl v) w (fl_lt _ (by omega)) (fl_lt _ (by omega)) (fl_lt _ (by omega)) (fl_lt _ (by omega))
  have ok : okC P Q = true := okC_iff.2 ⟨hP, hQ⟩
  rw [opAns_good (valid4_mk (vp_fl _ b1) (vp_fl _ b2) (vp_fl _ lu) (vp_fl _ lv)) (x := P) (y := Q)
    (by rw [nb_fl _ (by omega), nb_fl _ (by omega), nb_fl _ (by omega), nb_fl _ (by omega)]; unfold mulX stX stY; rcases isU_cases hu with ⟨rfl, rfl⟩ | ⟨rfl, rfl⟩ | ⟨rfl, rfl⟩ | ⟨rfl, rfl⟩ <;> omega)
    (by rw [nb_fl _ (by omega), nb_fl _ (by omega), nb_fl _ (by omega), nb_fl _ (by omega)]; unfold mulY stX stY; rcases isU_cases hu with ⟨rfl, rfl⟩ | ⟨rfl, rfl⟩ | ⟨rfl, rfl⟩ | ⟨rfl, rfl⟩ <;> omega)] at this
  unfold ansV ansE at this
  rw [ok] at this
  exact this

theorem quo_shapeless (a b : Nat) (w : World) (ha : a < 2 ^ 64) (hb : b < 2 ^ 64) (h : vc a b = false) (c d : Nat) (hc : c < 2 ^ 64) (hd : d < 2 ^ 64) :
    Calls Tryd.prog 24 #[.complex .f64 a b, .complex .f64 c d] w fun e w' => e = .returned (.tuple #[.complex .f64 0 0, .int .i64 3]) ∧ w' = w :=
  quo_bad a b c d w ha hb hc hd (by rw [valid4_vc, h]; rfl)

theorem quo_by_zero (p q : Int) (hp : p.natAbs ≤ 16777216) (hq : q.natAbs ≤ 16777216) (w : World) :
    Calls Tryd.prog 24 #[.complex .f64 (fl p) (fl q), .complex .f64 0 0] w fun e w' => e = .returned (.tuple #[.complex .f64 0 0, .int .i64 51]) ∧ w' = w :=
  quo_zero (fl p) (fl q) 0 0 w (fl_lt _ (by omega)) (fl_lt _ (by omega)) (by decide) (by decide) (valid4_mk (vp_fl p hp) (vp_fl q hq) (by decide) (by decide)) ⟨by decide, by decide⟩

theorem quo_self (p q : Int) (hp : p.natAbs ≤ 16777216) (hq : q.natAbs ≤ 16777216) (h0 : ¬ (p = 0 ∧ q = 0)) (w : World) :
    Calls Tryd.prog 24 #[.complex .f64 (fl p) (fl q), .complex .f64 (fl p) (fl q)] w fun e w' => e = .returned (.tuple #[.complex .f64 4607182418800017408 0, .int .i64 0]) ∧ ∃ n, w' = w.drewN n := by
  have := quo_any (fl p) (fl q) (fl p) (fl q) w (fl_lt _ (by omega)) (fl_lt _ (by omega)) (fl_lt _ (by omega)) (fl_lt _ (by omega))
  rw [quo_whole hp hq hp hq (x := 1) (y := 0) (by decide) (by decide) h0 (by unfold qX qN; omega) (by unfold qY; rw [Int.mul_neg, Int.mul_comm q p]; omega)] at this
  have e1 : fl 1 = 4607182418800017408 := by decide
  rw [e1, fl_zero] at this
  exact this

theorem quo_of_zero (p q : Int) (hp : p.natAbs ≤ 16777216) (hq : q.natAbs ≤ 16777216) (h0 : ¬ (p = 0 ∧ q = 0)) (w : World) :
    Calls Tryd.prog 24 #[.complex .f64 0 0, .complex .f64 (fl p) (fl q)] w fun e w' => e = .returned (.tuple #[.complex .f64 0 0, .int .i64 0]) ∧ ∃ n, w' = w.drewN n := by
  have := quo_any (fl 0) (fl 0) (fl p) (fl q) w (by decide) (by decide) (fl_lt _ (by omega)) (fl_lt _ (by omega))
  rw [quo_whole (by decide) (by decide) hp hq (x := 0) (y := 0) (by decide) (by decide) h0 (by unfold qX; omega) (by unfold qY; omega)] at this
  rw [fl_zero] at this
  exact this
end Go.Proofs.YtmmcpganhfflmaaDoor
