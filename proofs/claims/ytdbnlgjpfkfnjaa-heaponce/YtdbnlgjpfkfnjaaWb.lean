/-
  The walks of sums, products and of a number out of its parts.
-/
import Derived.Test.YtdbnlgjpfkfnjaaWa
import Derived.Deep.QuietTactic
import Derived.BigQuiet
namespace Go.Proofs.Ytdbnlgjpfkfnjaa
open Go.RowKit
open Ieee

/-- Both are numbers. -/
def valid4 (a b c d : Nat) : Bool := (vp a && vp b) && (vp c && vp d)

/-- The parts of a sum, and of a product. -/
def addX (p _q r _s : Int) : Int := p + r
def addY (_p q _r s : Int) : Int := q + s
def mulX (p q r s : Int) : Int := p * r - q * s
def mulY (p q r s : Int) : Int := p * s + q * r

def opE (X Y : Int → Int → Int → Int → Int) (a b c d : Nat) : Int :=
  if valid4 a b c d then (if okC (X (nb a) (nb b) (nb c) (nb d)) (Y (nb a) (nb b) (nb c) (nb d)) then 0 else 50) else 3
def opR (X Y : Int → Int → Int → Int → Int) (a b c d : Nat) : Nat :=
  if opE X Y a b c d = 0 then fl (X (nb a) (nb b) (nb c) (nb d)) else 0
def opI (X Y : Int → Int → Int → Int → Int) (a b c d : Nat) : Nat :=
  if opE X Y a b c d = 0 then fl (Y (nb a) (nb b) (nb c) (nb d)) else 0

theorem okC_iff {x y : Int} : okC x y = true ↔ x.natAbs ≤ 16777216 ∧ y.natAbs ≤ 16777216 := by
  unfold okC; simp

theorem opE_zero {X Y : Int → Int → Int → Int → Int} {a b c d : Nat} (h : opE X Y a b c d = 0) : valid4 a b c d = true ∧ okC (X (nb a) (nb b) (nb c) (nb d)) (Y (nb a) (nb b) (nb c) (nb d)) = true := by
  unfold opE at h
  split at h
  · split at h
    · constructor <;> assumption
    · omega
  · omega

theorem opR_lt (X Y : Int → Int → Int → Int → Int) (a b c d : Nat) : opR X Y a b c d < 2 ^ 64 := by
  unfold opR
  split
  · rename_i h
    have := okC_iff.1 (opE_zero h).2
    exact fl_lt _ (by omega)
  · decide

theorem opI_lt (X Y : Int → Int → Int → Int → Int) (a b c d : Nat) : opI X Y a b c d < 2 ^ 64 := by
  unfold opI
  split
  · rename_i h
    have := okC_iff.1 (opE_zero h).2
    exact fl_lt _ (by omega)
  · decide

/-- The answer of an operation, whatever the words. -/
def opAns (X Y : Int → Int → Int → Int → Int) (a b c d : Nat) : Ending :=
  .returned (.tuple #[.complex .f64 (opR X Y a b c d) (opI X Y a b c d), .int .i64 (opE X Y a b c d)])

theorem opAns_bad {X Y : Int → Int → Int → Int → Int} {a b c d : Nat} (h : valid4 a b c d = false) : opAns X Y a b c d = .returned (.tuple #[.complex .f64 0 0, .int .i64 3]) := by
  have e : opE X Y a b c d = 3 := by unfold opE; rw [h]; rfl
  unfold opAns opR opI
  rw [e]; rfl

theorem opAns_good {X Y : Int → Int → Int → Int → Int} {a b c d : Nat} (h : valid4 a b c d = true) {x y : Int} (hx : X (nb a) (nb b) (nb c) (nb d) = x) (hy : Y (nb a) (nb b) (nb c) (nb d) = y) :
    opAns X Y a b c d = .returned (.tuple #[ansV x y, .int .i64 (ansE x y)]) := by
  subst hx hy
  unfold opAns opR opI ansV ansE
  cases ho : okC (X (nb a) (nb b) (nb c) (nb d)) (Y (nb a) (nb b) (nb c) (nb d)) with
  | true =>
    have e : opE X Y a b c d = 0 := by unfold opE; rw [h, ho]; rfl
    rw [e]; rfl
  | false =>
    have e : opE X Y a b c d = 50 := by unfold opE; rw [h, ho]; rfl
    rw [e]; rfl

theorem vp_rep {b : Nat} (h : vp b = true) : Rep b (nb b) ∧ (nb b).natAbs ≤ 16777216 := by
  obtain ⟨h1, h2⟩ := vp_true h
  refine ⟨?_, h1⟩
  have := rep_fl (nb b) (by omega)
  rwa [← h2] at this

theorem valid4_parts {a b c d : Nat} (h : valid4 a b c d = true) : vp a = true ∧ vp b = true ∧ vp c = true ∧ vp d = true := by
  unfold valid4 at h
  simp at h
  exact ⟨h.1.1, h.1.2, h.2.1, h.2.2⟩

/-- What Valid answers. -/
def vc (a b : Nat) : Bool := vp a && vp b

theorem valid_vc (a b : Nat) (w : World) (ha : a < 2 ^ 64) (hb : b < 2 ^ 64) :
    Calls Try.prog 37 #[.complex .f64 a b] w fun e w' => e = .returned (.bool (vc a b)) ∧ w' = w := valid_any a b w ha hb

theorem valid4_vc (a b c d : Nat) : valid4 a b c d = (vc a b && vc c d) := rfl

/-- The bits that Z takes of a part. -/
def zb (raw : Bool) (n : Int) : Nat := if raw then (IntKind.u64.wrap n).toNat else fl n

theorem wrap_u64_lt (n : Int) : (IntKind.u64.wrap n).toNat < 2 ^ 64 := by
  have hs : IntKind.u64.signed = false := rfl
  have h : IntKind.u64.wrap n = n % 18446744073709551616 := by simp [go_sem, IntKind.wrap, hs]
  rw [h]; omega

theorem nearest_lt64 (s : Bool) (m : Nat) (i : Int) : double.nearest s m i < 2 ^ 64 := double.nearest_lt s m i

theorem zb_lt (raw : Bool) (n : Int) : zb raw n < 2 ^ 64 := by
  unfold zb
  split
  · exact wrap_u64_lt n
  · exact nearest_lt64 _ _ _

set_option maxHeartbeats 400000 in
theorem z_raw (x y : Int) (w : World) :
    Calls Try.prog 32 #[.agg #[.int .i64 x, .int .i64 y, .bool true]] w fun e w' => e = .returned (.complex .f64 (zb true x) (zb true y)) ∧ ∃ n, w' = (w.alloc (.cells #[.int .i64 x, .int .i64 y, .bool true] 33)).drewN n := by
  have hr := run_frombits
  go_enter Try.func32, Try.ntmps32
  go_wp2
  go_quiet (fail)
  go_wp2
  go_ret
  exact ⟨rfl, _, rfl⟩

set_option maxHeartbeats 400000 in
theorem z_plain (x y : Int) (w : World) :
    Calls Try.prog 32 #[.agg #[.int .i64 x, .int .i64 y, .bool false]] w fun e w' => e = .returned (.complex .f64 (zb false x) (zb false y)) ∧ ∃ n, w' = (w.alloc (.cells #[.int .i64 x, .int .i64 y, .bool false] 33)).drewN n := by
  have e1 : zb false x = floatOfInt .f64 x := by unfold zb; rw [if_neg Bool.false_ne_true, fl_conv]
  have e2 : zb false y = floatOfInt .f64 y := by unfold zb; rw [if_neg Bool.false_ne_true, fl_conv]
  rw [e1, e2]
  clear e1 e2
  go_enter Try.func32, Try.ntmps32
  go_wp2
  go_ret
  exact ⟨rfl, 0, (World.drewN_zero _).symm⟩

theorem z_any (x y : Int) (r : Bool) (w : World) :
    Calls Try.prog 32 #[.agg #[.int .i64 x, .int .i64 y, .bool r]] w fun e w' => e = .returned (.complex .f64 (zb r x) (zb r y)) ∧ ∃ n, w' = (w.alloc (.cells #[.int .i64 x, .int .i64 y, .bool r] 33)).drewN n := by
  cases r
  · exact z_plain x y w
  · exact z_raw x y w
end Go.Proofs.Ytdbnlgjpfkfnjaa
