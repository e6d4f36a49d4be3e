/-
  The walks of the small functions: what a float's bits are, whether a part is one, whether a number is one.
-/
import Derived.Test.YtdbnlgjpfkfnjaaRows
import Derived.Test.YtdbnlgjpfkfnjaaFl
import Derived.WalkKit
import Derived.WalkSpells
import Derived.WalkLawsBesides
import Derived.Laws.Externs
namespace Go.Proofs.Ytdbnlgjpfkfnjaa
open Go.RowKit
open Ieee

theorem run_bits (b : Nat) (w : World) : (callFunc 47 #[.float .f64 b]).run Try.prog w = .ok (.value (.int .u64 b)) w := by
  rw [run_callFunc_extern (e := Extern.MathFloatBits.float64bits) Try.func47 (by kernel_rfl) (by kernel_rfl) (by kernel_rfl) (by kernel_rfl)]
  rfl

theorem run_frombits (n : Int) (w : World) : (callFunc 39 #[.int .u64 n]).run Try.prog w = .ok (.value (.float .f64 n.toNat)) w := by
  rw [run_callFunc_extern (e := Extern.MathFloatBits.float64frombits) Try.func39 (by kernel_rfl) (by kernel_rfl) (by kernel_rfl) (by kernel_rfl)]
  rfl

theorem run_trunc (b : Nat) (w : World) (h : (double.read b).isNaN = false) : (callFunc 48 #[.float .f64 b]).run Try.prog w = .ok (.value (.float .f64 (truncBits b))) w := by
  rw [run_callFunc_extern (e := Extern.MathFloor.toIntegral "math.archTrunc" .zero) Try.func48 (by kernel_rfl) (by kernel_rfl) (by kernel_rfl) (by kernel_rfl)]
  have : (Extern.MathFloor.toIntegral "math.archTrunc" .zero #[.float .f64 b]) = pure (.float .f64 (truncBits b)) := by
    have e : FloatKind.f64.decode b = double.read b := rfl
    have h3 : truncBits b = FloatKind.f64.encode ((FloatKind.f64.decode b).integral .zero) := rfl
    rw [h3]
    rw [← e] at h
    delta Extern.MathFloor.toIntegral
    unfold Extern.MathFloor.toIntegral.match_2
    dsimp
    have g : (#[Value.float FloatKind.f64 b].getLit 0 rfl Nat.zero_lt_one) = Value.float .f64 b := rfl
    rw [g]
    dsimp only [Extern.MathFloor.toIntegral._sparseCasesOn_2, Extern.MathFloor.toIntegral._sparseCasesOn_3]
    cases hd : FloatKind.f64.decode b with
    | nan s t => rw [hd] at h; simp [Datum.isNaN] at h
    | infinity s => rfl
    | number s m i => rfl
  rw [this]
  rfl

theorem f64_double : FloatKind.f64.format = double := rfl
theorem ret_bool {a b : Bool} (h : a = b) : Ending.returned (.bool a) = .returned (.bool b) := by rw [h]

set_option maxHeartbeats 400000 in
theorem within_any (b : Nat) (w : World) :
    Calls Try.prog 45 #[.float .f64 b] w fun e w' => e = .returned (.bool (leB (double.order (fl (-16777216)) b) && leB (double.order b (fl 16777216)))) ∧ w' = w := by
  rw [most_fl, least_fl]
  go_enter Try.func45, Try.ntmps45
  go_wp2
  all_goals (go_ret; refine ⟨ret_bool ?_, rfl⟩; simp_all [leB, f64_double])

set_option maxHeartbeats 400000 in
theorem signbit_any (b : Nat) (w : World) (hb : b < 2 ^ 64) :
    Calls Try.prog 44 #[.float .f64 b] w fun e w' => e = .returned (.bool (decide (2 ^ 63 ≤ b))) ∧ w' = w := by
  have hr := run_bits b
  go_enter Try.func44, Try.ntmps44
  go_wp2
  go_ret
  refine ⟨ret_bool ?_, rfl⟩
  unfold wrap64
  rw [decide_eq_decide]
  omega

set_option maxHeartbeats 400000 in
theorem trunc_any (b : Nat) (w : World) (h : (double.read b).isNaN = false) :
    Calls Try.prog 46 #[.float .f64 b] w fun e w' => e = .returned (.float .f64 (truncBits b)) ∧ w' = w := by
  have hr := fun w => run_trunc b w h
  go_enter Try.func46, Try.ntmps46
  go_wp2
  go_ret
  exact ⟨rfl, rfl⟩

theorem not_nan_of_le {x y : Nat} (h : leB (double.order x y) = true) : (double.read y).isNaN = false := by
  unfold Format.order at h
  cases hy : double.read y with
  | nan s t => rw [hy] at h; cases hx : double.read x <;> rw [hx] at h <;> simp [Datum.order, leB] at h
  | infinity s => rfl
  | number s m i => rfl

set_option maxHeartbeats 400000 in
theorem validPart_any (b : Nat) (w : World) (hb : b < 2 ^ 64) :
    Calls Try.prog 42 #[.float .f64 b] w fun e w' => e = .returned (.bool (vp b)) ∧ w' = w := by
  have key : Hid (codeVp b = vp b) := codeVp_eq b hb
  by_cases hz : (double.order b 0 == some .eq) = true
  · have hz' : (FloatKind.f64.format.order b 0 == some .eq) = true := hz
    go_enter Try.func42, Try.ntmps42
    go_wp2_with (go_at_call 44; refine (signbit_any b _ hb).mono ?_; rintro e w' ⟨rfl, rfl⟩)
    go_ret
    refine ⟨ret_bool ?_, rfl⟩
    rw [← key.out]
    unfold codeVp
    rw [if_pos hz]
    have : (!decide (2 ^ 63 ≤ b)) = decide (b < 2 ^ 63) := by rw [← decide_not, decide_eq_decide]; omega
    exact this
  · have hz' : (FloatKind.f64.format.order b 0 == some .eq) = false := by simpa [f64_double] using hz
    by_cases hw : (leB (double.order (fl (-16777216)) b) && leB (double.order b (fl 16777216))) = true
    · have hn : (double.read b).isNaN = false := not_nan_of_le (by simp at hw; exact hw.1)
      go_enter Try.func42, Try.ntmps42
      go_wp2_with (first | (go_at_call 45; refine (within_any b _).mono ?_; rintro e w' ⟨rfl, rfl⟩) | (go_at_call 46; refine (trunc_any b _ hn).mono ?_; rintro e w' ⟨rfl, rfl⟩))
      go_ret
      refine ⟨ret_bool ?_, rfl⟩
      rw [← key.out]
      unfold codeVp
      rw [if_neg hz, hw]
      simp [f64_double]
    · have hw' : (leB (double.order (fl (-16777216)) b) && leB (double.order b (fl 16777216))) = false := by simpa using hw
      go_enter Try.func42, Try.ntmps42
      go_wp2_with (first | (go_at_call 45; refine (within_any b _).mono ?_; rintro e w' ⟨rfl, rfl⟩))
      go_ret
      refine ⟨ret_bool ?_, rfl⟩
      rw [← key.out]
      unfold codeVp
      rw [if_neg hz, hw']
      simp

set_option maxHeartbeats 400000 in
theorem valid_any (a b : Nat) (w : World) (ha : a < 2 ^ 64) (hb : b < 2 ^ 64) :
    Calls Try.prog 37 #[.complex .f64 a b] w fun e w' => e = .returned (.bool (vp a && vp b)) ∧ w' = w := by
  by_cases h : vp a = true
  · go_enter Try.func37, Try.ntmps37
    go_wp2_with (go_at_call 42; refine (validPart_any _ _ (by assumption)).mono ?_; rintro e w' ⟨rfl, rfl⟩)
    go_ret
    exact ⟨ret_bool (by simp [h]), rfl⟩
  · have h' : vp a = false := by simpa using h
    go_enter Try.func37, Try.ntmps37
    go_wp2_with (go_at_call 42; refine (validPart_any _ _ (by assumption)).mono ?_; rintro e w' ⟨rfl, rfl⟩)
    go_ret
    exact ⟨ret_bool (by simp [h']), rfl⟩

/-- A whole number within the bounds. -/
def inB (n : Int) : Bool := decide (n.natAbs ≤ 16777216)

theorem fl_conv (n : Int) : floatOfInt .f64 n = fl n := rfl

/-- What settle answers of a whole complex number. -/
def okC (x y : Int) : Bool := decide (x.natAbs ≤ 16777216) && decide (y.natAbs ≤ 16777216)

theorem within_rep {b : Nat} {n : Int} (hb : Rep b n) : (leB (double.order (fl (-16777216)) b) && leB (double.order b (fl 16777216))) = inB n := by
  have m1 := rep_fl (-16777216) (by decide)
  have m2 := rep_fl 16777216 (by decide)
  rw [show double.order (fl (-16777216)) b = _ from rep_order m1 hb, show double.order b (fl 16777216) = _ from rep_order hb m2, leB_compare, leB_compare]
  unfold inB
  rw [← Bool.decide_and, decide_eq_decide]
  omega

theorem within_rep_any {b : Nat} {n : Int} (hb : Rep b n) (w : World) :
    Calls Try.prog 45 #[.float .f64 b] w fun e w' => e = .returned (.bool (inB n)) ∧ w' = w := by
  rw [← within_rep hb]; exact within_any b w

/-- What an operation answers: the number, or that it is too great. -/
def ansV (x y : Int) : Value := if okC x y then .complex .f64 (fl x) (fl y) else .complex .f64 0 0
def ansE (x y : Int) : Int := if okC x y then 0 else 50

/-- Bit by bit the same. -/
def same (a b c d : Nat) : Bool := decide (a = c ∧ b = d)

theorem same_refl (a b : Nat) : same a b a b = true := by simp [same]

end Go.Proofs.Ytdbnlgjpfkfnjaa
