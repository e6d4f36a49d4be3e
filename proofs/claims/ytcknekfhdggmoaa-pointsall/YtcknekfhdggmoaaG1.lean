/-
  The small functions of points, and the document's: Top, Check, Cons, Is, into, Word.
-/
import Derived.Test.YtcknekfhdggmoaaG0
namespace Go.Proofs.Ytcknekfhdggmoaa
open Go.RowKit
open Go.Lib
set_option maxRecDepth 100000

/-- A type's top; below 0: it is none. -/
def topP (t : Int) : Int := if t = 1 ∨ t = 2 then 1 else if t = 3 then 3 else -1
def topV (t : Int) : Int := if topP t < 0 then 0 else topP t
def topE (t : Int) : Int := if topP t < 0 then 3 else 0
def isP (t p : Int) : Bool := decide (0 ≤ p ∧ p ≤ topP t)
def chkP (t p : Int) : Int := if topP t < 0 then 3 else if isP t p then 0 else 2

theorem top_cases (t : Int) : (t = 1 ∧ topP t = 1) ∨ (t = 2 ∧ topP t = 1) ∨ (t = 3 ∧ topP t = 3) ∨ ((t == 1) = false ∧ (t == 2) = false ∧ (t == 3) = false ∧ topP t = -1) := by
  unfold topP
  simp only [beq_eq_false_iff_ne, ne_eq]
  split
  · omega
  · split <;> omega

theorem top_any (t : Int) (w : World) :
    Calls Try.prog 7 #[.int .i64 t] w fun e w' => e = .returned (.tuple #[.int .i64 (topV t), .int .i64 (topE t)]) ∧ Below w.heap.size w w' := by
  unfold topV topE
  rcases top_cases t with ⟨rfl, h⟩ | ⟨rfl, h⟩ | ⟨rfl, h⟩ | ⟨h1, h2, h3, h⟩
  all_goals
    rw [h]
    clear h
    go_enter Try.func7, Try.ntmps7
    go_wp2
    exact bodyPost_ret (v := .tuple #[.int .i64 _, .int .i64 _]) (by simp [results, Try.results7, go_sem]) rfl ⟨rfl, Below.refl _ _⟩

theorem rtop_any (t : Int) (w : World) :
    Calls Try.prog 8 #[.int .i64 t] w fun e w' => e = .returned (.int .i64 (topP t)) ∧ Below w.heap.size w w' := by
  rcases top_cases t with ⟨rfl, h⟩ | ⟨rfl, h⟩ | ⟨rfl, h⟩ | ⟨h1, h2, h3, h⟩
  all_goals
    rw [h]
    clear h
    go_enter Try.func8, Try.ntmps8
    go_wp2
    go_ret
    exact ⟨rfl, Below.refl _ _⟩

theorem check_any (t p : Int) (w : World) :
    Calls Try.prog 9 #[.int .i64 t, .int .i64 p] w fun e w' => e = .returned (.int .i64 (chkP t p)) ∧ Below w.heap.size w w' := by
  have h1 := top_any t w
  unfold topV topE at h1
  unfold chkP isP
  generalize topP t = k at *
  by_cases hk : k < 0
  · rw [if_pos hk, if_pos hk] at h1
    rw [if_pos hk]
    clear hk
    go_enter Try.func9, Try.ntmps9
    go_wp2_with fail
    refine h1.mono ?_
    rintro e w1 ⟨rfl, hb1⟩
    go_wp2
    go_ret
    exact ⟨rfl, hb1⟩
  · rw [if_neg hk, if_neg hk] at h1
    rw [if_neg hk]
    by_cases hp : p < 0
    · rw [decide_eq_false (show ¬ (0 ≤ p ∧ p ≤ k) by omega)]
      have hp' : decide (p < 0) = true := decide_eq_true hp
      go_enter Try.func9, Try.ntmps9
      go_wp2_with fail
      refine h1.mono ?_
      rintro e w1 ⟨rfl, hb1⟩
      go_wp2
      go_ret
      exact ⟨rfl, hb1⟩
    · have h0 : decide (p < 0) = false := decide_eq_false hp
      by_cases hq : p ≤ k
      · rw [decide_eq_true (show 0 ≤ p ∧ p ≤ k by omega)]
        have hq' : decide (k < p) = false := decide_eq_false (by omega)
        go_enter Try.func9, Try.ntmps9
        go_wp2_with fail
        refine h1.mono ?_
        rintro e w1 ⟨rfl, hb1⟩
        go_wp2
        go_ret
        exact ⟨rfl, hb1⟩
      · rw [decide_eq_false (show ¬ (0 ≤ p ∧ p ≤ k) by omega)]
        have hq' : k < p := by omega
        go_enter Try.func9, Try.ntmps9
        go_wp2_with fail
        refine h1.mono ?_
        rintro e w1 ⟨rfl, hb1⟩
        go_wp2
        go_ret
        exact ⟨rfl, hb1⟩

theorem is_any (t p : Int) (w : World) :
    Calls Try.prog 12 #[.int .i64 t, .int .i64 p] w fun e w' => e = .returned (.bool (isP t p)) ∧ Below w.heap.size w w' := by
  have h1 := rtop_any t w
  unfold isP
  generalize topP t = k at *
  by_cases hp : 0 ≤ p
  · by_cases hq : p ≤ k
    · rw [decide_eq_true (show 0 ≤ p ∧ p ≤ k by omega)]
      go_enter Try.func12, Try.ntmps12
      go_wp2_with fail
      refine h1.mono ?_
      rintro e w1 ⟨rfl, hb1⟩
      go_wp2
      go_ret
      exact ⟨ret_bool (by simp), hb1⟩
    · rw [decide_eq_false (show ¬ (0 ≤ p ∧ p ≤ k) by omega)]
      go_enter Try.func12, Try.ntmps12
      go_wp2_with fail
      refine h1.mono ?_
      rintro e w1 ⟨rfl, hb1⟩
      go_wp2
      go_ret
      exact ⟨ret_bool (by simp [hq]), hb1⟩
  · rw [decide_eq_false (show ¬ (0 ≤ p ∧ p ≤ k) by omega)]
    have h0 : decide (0 ≤ p) = false := decide_eq_false hp
    go_enter Try.func12, Try.ntmps12
    go_wp2
    go_ret
    exact ⟨rfl, Below.refl _ _⟩

theorem rcheck_any (t p : Int) (w : World) :
    Calls Try.prog 10 #[.int .i64 t, .int .i64 p] w fun e w' => e = .returned (.int .i64 (chkP t p)) ∧ Below w.heap.size w w' := by
  have h1 := rtop_any t w
  have h2 := fun W => is_any t p W
  unfold chkP
  generalize topP t = k at *
  generalize isP t p = b at *
  by_cases hk : k < 0
  · rw [if_pos hk]
    go_enter Try.func10, Try.ntmps10
    go_wp2_with fail
    refine h1.mono ?_
    rintro e w1 ⟨rfl, hb1⟩
    go_wp2
    go_ret
    exact ⟨rfl, hb1⟩
  · rw [if_neg hk]
    have hk' : decide (k < 0) = false := decide_eq_false hk
    go_enter Try.func10, Try.ntmps10
    go_wp2_with fail
    refine h1.mono ?_
    rintro e w1 ⟨rfl, hb1⟩
    go_wp2_with fail
    refine (h2 _).mono ?_
    rintro e w2 ⟨rfl, hb2⟩
    cases b
    all_goals
      go_wp2
      go_ret
      exact ⟨rfl, Below.thn hb1 hb2⟩

/-- The point of a cons. -/
def consP (h t : Int) : Int := if t = 0 then 1 else if t = 3 ∧ h = 0 then 2 else t

theorem cons_good (h t : Int) (hh : h = 0 ∨ h = 1) (ht : t = 0 ∨ t = 1 ∨ t = 2 ∨ t = 3) (w : World) :
    Calls Try.prog 11 #[.int .i64 h, .int .i64 t] w fun e w' => e = .returned (.tuple #[.int .i64 (consP h t), .int .i64 0]) ∧ Below w.heap.size w w' := by
  have h1 := fun W => check_any 1 h W
  have h2 := fun W => check_any 3 t W
  have e1 : chkP 1 h = 0 := by rcases hh with rfl | rfl <;> decide
  have e2 : chkP 3 t = 0 := by rcases ht with rfl | rfl | rfl | rfl <;> decide
  rw [e1] at h1
  rw [e2] at h2
  clear e1 e2
  rcases hh with rfl | rfl <;> rcases ht with rfl | rfl | rfl | rfl
  all_goals
    unfold consP
    go_enter Try.func11, Try.ntmps11
    go_wp2_with fail
    refine (h1 _).mono ?_
    rintro e w1 ⟨rfl, hb1⟩
    go_wp2_with fail
    refine (h2 _).mono ?_
    rintro e w2 ⟨rfl, hb2⟩
    go_wp2
    exact bodyPost_ret (v := .tuple #[.int .i64 _, .int .i64 _]) (by simp [results, Try.results11, go_sem]) rfl ⟨rfl, Below.thn hb1 hb2⟩

theorem cons_bad (h t : Int) (hn : ¬ (isP 1 h = true ∧ isP 3 t = true)) (w : World) :
    Calls Try.prog 11 #[.int .i64 h, .int .i64 t] w fun e w' => e = .returned (.tuple #[.int .i64 0, .int .i64 2]) ∧ Below w.heap.size w w' := by
  have h1 := fun W => check_any 1 h W
  have h2 := fun W => check_any 3 t W
  have c1 : ∀ p, chkP 1 p = if isP 1 p then 0 else 2 := fun p => by unfold chkP; rw [if_neg (by decide)]
  have c3 : ∀ p, chkP 3 p = if isP 3 p then 0 else 2 := fun p => by unfold chkP; rw [if_neg (by decide)]
  rw [c1] at h1
  rw [c3] at h2
  clear c1 c3
  generalize isP 1 h = a at *
  generalize isP 3 t = b at *
  cases a with
  | false =>
    rw [if_neg (by decide)] at h1
    clear h2 hn
    go_enter Try.func11, Try.ntmps11
    go_wp2_with fail
    refine (h1 _).mono ?_
    rintro e w1 ⟨rfl, hb1⟩
    go_wp2
    exact bodyPost_ret (v := .tuple #[.int .i64 _, .int .i64 _]) (by simp [results, Try.results11, go_sem]) rfl ⟨rfl, hb1⟩
  | true =>
    cases b with
    | true => exact absurd ⟨rfl, rfl⟩ hn
    | false =>
      rw [if_pos rfl] at h1
      rw [if_neg (by decide)] at h2
      clear hn
      go_enter Try.func11, Try.ntmps11
      go_wp2_with fail
      refine (h1 _).mono ?_
      rintro e w1 ⟨rfl, hb1⟩
      go_wp2_with fail
      refine (h2 _).mono ?_
      rintro e w2 ⟨rfl, hb2⟩
      go_wp2
      exact bodyPost_ret (v := .tuple #[.int .i64 _, .int .i64 _]) (by simp [results, Try.results11, go_sem]) rfl ⟨rfl, Below.thn hb1 hb2⟩

theorem rcons_any (h t : Int) (hh : h = 0 ∨ h = 1) (ht : t = 0 ∨ t = 1 ∨ t = 2 ∨ t = 3) (w : World) :
    Calls Try.prog 13 #[.int .i64 h, .int .i64 t] w fun e w' => e = .returned (.int .i64 (consP h t)) ∧ Below w.heap.size w w' := by
  rcases hh with rfl | rfl <;> rcases ht with rfl | rfl | rfl | rfl
  all_goals
    unfold consP
    go_enter Try.func13, Try.ntmps13
    go_wp2
    go_ret
    exact ⟨rfl, Below.refl _ _⟩

/-- The word of a point. -/
def wdP (t p : Int) : ByteArray :=
  if chkP t p ≠ 0 then ⟨#[]⟩ else if p = 0 then ⟨#[110, 101, 118, 101, 114]⟩ else if t ≠ 3 then ⟨#[118, 97, 108, 117, 101]⟩ else if p = 1 then ⟨#[112, 97, 114, 116, 105, 97, 108]⟩ else if p = 2 then ⟨#[104, 111, 108, 101, 100]⟩ else ⟨#[119, 104, 111, 108, 101]⟩

/-- What points there are: of a type that is one, a point or none. -/
theorem chk_cases (t p : Int) : (t = 1 ∧ p = 0) ∨ (t = 1 ∧ p = 1) ∨ (t = 2 ∧ p = 0) ∨ (t = 2 ∧ p = 1) ∨ (t = 3 ∧ p = 0) ∨ (t = 3 ∧ p = 1) ∨ (t = 3 ∧ p = 2) ∨ (t = 3 ∧ p = 3) ∨ (chkP t p == 0) = false := by
  unfold chkP isP
  rcases top_cases t with ⟨rfl, h⟩ | ⟨rfl, h⟩ | ⟨rfl, h⟩ | ⟨h1, h2, h3, h⟩
  · rw [h]
    by_cases hp : 0 ≤ p ∧ p ≤ 1
    · omega
    · simp [hp]
  · rw [h]
    by_cases hp : 0 ≤ p ∧ p ≤ 1
    · omega
    · simp [hp]
  · rw [h]
    by_cases hp : 0 ≤ p ∧ p ≤ 3
    · omega
    · simp [hp]
  · rw [h]
    simp

theorem word_any (t p : Int) (w : World) :
    Calls Try.prog 16 #[.int .i64 t, .int .i64 p] w fun e w' => e = .returned (.tuple #[.string (wdP t p), .int .i64 (chkP t p)]) ∧ Below w.heap.size w w' := by
  have h1 := fun W => check_any t p W
  rcases chk_cases t p with ⟨rfl, rfl⟩ | ⟨rfl, rfl⟩ | ⟨rfl, rfl⟩ | ⟨rfl, rfl⟩ | ⟨rfl, rfl⟩ | ⟨rfl, rfl⟩ | ⟨rfl, rfl⟩ | ⟨rfl, rfl⟩ | hc
  case inr.inr.inr.inr.inr.inr.inr.inr =>
    have hw : wdP t p = ⟨#[]⟩ := by unfold wdP; rw [if_pos (by simpa using hc)]
    rw [hw]
    clear hw
    generalize chkP t p = c at *
    go_enter Try.func16, Try.ntmps16
    go_wp2_with fail
    refine (h1 _).mono ?_
    rintro e w1 ⟨rfl, hb1⟩
    go_wp2
    exact bodyPost_ret (v := .tuple #[.string _, .int .i64 _]) (by first | (simp [results, Try.results16, go_sem]; done) | (simp [results, Try.results16, go_sem]; exact ⟨by kernel_rfl, by decide⟩)) rfl ⟨rfl, hb1⟩
  all_goals
    rw [show chkP _ _ = 0 from by decide] at h1
    go_enter Try.func16, Try.ntmps16
    go_wp2_with fail
    refine (h1 _).mono ?_
    rintro e w1 ⟨rfl, hb1⟩
    go_wp2
    exact bodyPost_ret (v := .tuple #[.string _, .int .i64 _]) (by first | (simp [results, Try.results16, go_sem]; done) | (simp [results, Try.results16, go_sem]; exact ⟨by kernel_rfl, by decide⟩)) rfl ⟨rfl, hb1⟩

theorem rword_any (t p : Int) (w : World) :
    Calls Try.prog 17 #[.int .i64 t, .int .i64 p] w fun e w' => e = .returned (.tuple #[.string (wdP t p), .int .i64 (chkP t p)]) ∧ Below w.heap.size w w' := by
  have h1 := fun W => rcheck_any t p W
  rcases chk_cases t p with ⟨rfl, rfl⟩ | ⟨rfl, rfl⟩ | ⟨rfl, rfl⟩ | ⟨rfl, rfl⟩ | ⟨rfl, rfl⟩ | ⟨rfl, rfl⟩ | ⟨rfl, rfl⟩ | ⟨rfl, rfl⟩ | hc
  case inr.inr.inr.inr.inr.inr.inr.inr =>
    have hw : wdP t p = ⟨#[]⟩ := by unfold wdP; rw [if_pos (by simpa using hc)]
    rw [hw]
    clear hw
    generalize chkP t p = c at *
    go_enter Try.func17, Try.ntmps17
    go_wp2_with fail
    refine (h1 _).mono ?_
    rintro e w1 ⟨rfl, hb1⟩
    go_wp2
    exact bodyPost_ret (v := .tuple #[.string _, .int .i64 _]) (by first | (simp [results, Try.results17, go_sem]; done) | (simp [results, Try.results17, go_sem]; exact ⟨by kernel_rfl, by decide⟩)) rfl ⟨rfl, hb1⟩
  all_goals
    rw [show chkP _ _ = 0 from by decide] at h1
    go_enter Try.func17, Try.ntmps17
    go_wp2_with fail
    refine (h1 _).mono ?_
    rintro e w1 ⟨rfl, hb1⟩
    go_wp2
    first
      | exact bodyPost_ret (v := .tuple #[.string _, .int .i64 _]) (by first | (simp [results, Try.results17, go_sem]; done) | (simp [results, Try.results17, go_sem]; exact ⟨by kernel_rfl, by decide⟩)) rfl ⟨rfl, Below.thn hb1 (below_alloc _ _)⟩
      | exact bodyPost_ret (v := .tuple #[.string _, .int .i64 _]) (by first | (simp [results, Try.results17, go_sem]; done) | (simp [results, Try.results17, go_sem]; exact ⟨by kernel_rfl, by decide⟩)) rfl ⟨rfl, Below.thn hb1 (Below.thn (below_alloc _ _) (below_alloc _ _))⟩
end Go.Proofs.Ytcknekfhdggmoaa
