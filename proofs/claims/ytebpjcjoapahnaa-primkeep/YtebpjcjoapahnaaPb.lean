/-
  What the operations are and take; the walks of prim's small functions and of the document's.
-/
import Derived.Test.YtebpjcjoapahnaaVm
import Derived.Test.YtebpjcjoapahnaaRq
namespace Go.Proofs.Ytebpjcjoapahnaa
open Go.RowKit
set_option maxRecDepth 100000

/-- How many values an operation takes, and of which type. -/
def tkN (op : Int) : Int := if 8 ≤ op ∧ op ≤ 13 then 2 else if 14 ≤ op ∧ op ≤ 17 then 1 else 0
def tkT (op : Int) : Int := if op = 14 then 2 else if 8 ≤ op ∧ op ≤ 17 then 1 else 0

theorem tk_cases (op : Int) : op = 8 ∨ op = 9 ∨ op = 10 ∨ op = 11 ∨ op = 12 ∨ op = 13 ∨ op = 14 ∨ op = 15 ∨ op = 16 ∨ op = 17 ∨ (¬ (8 ≤ op ∧ op ≤ 17)) := by omega
theorem tk_none {op : Int} (h : ¬ (8 ≤ op ∧ op ≤ 17)) : tkN op = 0 ∧ tkT op = 0 := by
  unfold tkN tkT
  constructor
  · rw [if_neg (by omega), if_neg (by omega)]
  · rw [if_neg (by omega), if_neg (by omega)]

set_option maxHeartbeats 1000000 in
theorem takes_any (op : Int) (w : World) :
    Calls Try.prog 9 #[.int .i64 op] w fun e w' => e = .returned (.tuple #[.int .i64 (tkN op), .int .i64 (tkT op)]) ∧ w' = w := by
  rcases tk_cases op with rfl | rfl | rfl | rfl | rfl | rfl | rfl | rfl | rfl | rfl | h
  case inr.inr.inr.inr.inr.inr.inr.inr.inr.inr =>
    obtain ⟨e1, e2⟩ := tk_none h
    rw [e1, e2]
    have n : (op == 8) = false ∧ (op == 9) = false ∧ (op == 10) = false ∧ (op == 11) = false ∧ (op == 12) = false ∧ (op == 13) = false ∧ (op == 14) = false ∧ (op == 15) = false ∧ (op == 16) = false ∧ (op == 17) = false := by
      simp only [beq_eq_false_iff_ne]; omega
    obtain ⟨n8, n9, n10, n11, n12, n13, n14, n15, n16, n17⟩ := n
    clear h e1 e2
    go_enter Try.func9, Try.ntmps9
    go_wp2
    go_ret2
    exact ⟨rfl, rfl⟩
  all_goals
    go_enter Try.func9, Try.ntmps9
    go_wp2
    go_ret2
    exact ⟨rfl, rfl⟩

set_option maxHeartbeats 1000000 in
theorem rtakes_any (op : Int) (w : World) :
    Calls Try.prog 10 #[.int .i64 op] w fun e w' => e = .returned (.tuple #[.int .i64 (tkN op), .int .i64 (tkT op)]) ∧ w' = w := by
  rcases tk_cases op with rfl | rfl | rfl | rfl | rfl | rfl | rfl | rfl | rfl | rfl | h
  case inr.inr.inr.inr.inr.inr.inr.inr.inr.inr =>
    obtain ⟨e1, e2⟩ := tk_none h
    rw [e1, e2]
    have n : (op == 8) = false ∧ (op == 9) = false ∧ (op == 10) = false ∧ (op == 11) = false ∧ (op == 12) = false ∧ (op == 13) = false ∧ (op == 14) = false ∧ (op == 15) = false ∧ (op == 16) = false ∧ (op == 17) = false := by
      simp only [beq_eq_false_iff_ne]; omega
    obtain ⟨n8, n9, n10, n11, n12, n13, n14, n15, n16, n17⟩ := n
    clear h e1 e2
    go_enter Try.func10, Try.ntmps10
    go_wp2
    go_ret2
    exact ⟨rfl, rfl⟩
  all_goals
    go_enter Try.func10, Try.ntmps10
    go_wp2
    go_ret2
    exact ⟨rfl, rfl⟩

/-- A number, a bool, as values. -/
def rn (z : Wz) : Rv := ⟨1, z, false, []⟩
def rb (b : Bool) : Rv := ⟨2, (0, 0), b, []⟩
/-- A number, or an error and nothing beside it. -/
def nuR (z : Wz) (e : Int) : Rv := if e = 0 then rn z else rv0

theorem rv_n (z : Wz) : vV none 0 (rn z) = .agg #[.int .i64 1, .complex .f64 z.1 z.2, .bool false, .slice none 0 0] := rfl
theorem rv_b (b : Bool) : vV none 0 (rb b) = .agg #[.int .i64 2, .complex .f64 0 0, .bool b, .slice none 0 0] := rfl
theorem rv_0 : vV none 0 rv0 = .agg #[.int .i64 0, .complex .f64 0 0, .bool false, .slice none 0 0] := rfl

set_option maxHeartbeats 1000000 in
theorem ptruth_any (b : Bool) (w : World) :
    Calls Try.prog 29 #[.bool b] w fun e w' => e = .returned (vV none 0 (rb b)) ∧ Below w.heap.size w w' := by
  rw [rv_b]
  have hcx := store_cx
  go_enter Try.func29, Try.ntmps29
  go_wp2
  exact bodyPost_ret (v := .agg #[.int .i64 2, .complex .f64 0 0, .bool b, .slice none 0 0]) (by simp [results, Try.results29, go_sem]) rfl ⟨rfl, below_alloc _ _⟩

set_option maxHeartbeats 1000000 in
theorem pnumber_any (z : Wz) (k : Int) (w : World) :
    Calls Try.prog 30 #[.complex .f64 z.1 z.2, .int .i64 k] w fun e w' => e = .returned (.tuple #[vV none 0 (nuR z k), .int .i64 k]) ∧ Below w.heap.size w w' := by
  have hcx := store_cx
  obtain ⟨x, y⟩ := z
  by_cases h : k = 0
  · subst h
    rw [show nuR (x, y) 0 = rn (x, y) from rfl, rv_n]
    go_enter Try.func30, Try.ntmps30
    go_wp2
    exact bodyPost_ret (v := .tuple #[.agg #[.int .i64 1, .complex .f64 x y, .bool false, .slice none 0 0], .int .i64 0]) (by simp [results, Try.results30, go_sem]) rfl ⟨rfl, below_alloc _ _⟩
  · have hk : (k == 0) = false := by rw [beq_eq_false_iff_ne]; exact h
    rw [show nuR (x, y) k = rv0 from if_neg h, rv_0]
    clear h
    go_enter Try.func30, Try.ntmps30
    go_wp2
    exact bodyPost_ret (v := .tuple #[.agg #[.int .i64 0, .complex .f64 0 0, .bool false, .slice none 0 0], .int .i64 k]) (by simp [results, Try.results30, go_sem]) rfl ⟨rfl, below_alloc _ _⟩

/-- What an operation makes of one number, of two. -/
def oneW (op : Int) (z : Wz) : Wz := if op = 15 then (z.1, 0) else if op = 16 then (z.2, 0) else (z.1, cj z.2)
def twoW (op : Int) (a b : Wz) : Wz :=
  if op = 8 then (opR addX addY a.1 a.2 b.1 b.2, opI addX addY a.1 a.2 b.1 b.2)
  else if op = 9 then (opR subX subY a.1 a.2 b.1 b.2, opI subX subY a.1 a.2 b.1 b.2)
  else if op = 10 then (opR mulX mulY a.1 a.2 b.1 b.2, opI mulX mulY a.1 a.2 b.1 b.2)
  else (quoR a.1 a.2 b.1 b.2, quoI a.1 a.2 b.1 b.2)
def twoE (op : Int) (a b : Wz) : Int :=
  if op = 8 then opE addX addY a.1 a.2 b.1 b.2
  else if op = 9 then opE subX subY a.1 a.2 b.1 b.2
  else if op = 10 then opE mulX mulY a.1 a.2 b.1 b.2
  else quoE a.1 a.2 b.1 b.2

set_option maxHeartbeats 1000000 in
theorem ofOne_any (op : Int) (z : Wz) (w : World) (h : vc z.1 z.2 = true) (ho : 15 ≤ op ∧ op ≤ 17) :
    Calls Try.prog 31 #[.int .i64 op, .complex .f64 z.1 z.2] w fun e w' => e = .returned (.tuple #[.complex .f64 (oneW op z).1 (oneW op z).2, .int .i64 0]) ∧ w' = w := by
  have hc := fun W => conj_yes z.1 z.2 W h
  obtain ⟨x, y⟩ := z
  have h3 : op = 15 ∨ op = 16 ∨ op = 17 := by omega
  clear ho h
  simp only at *
  rcases h3 with rfl | rfl | rfl
  · rw [show oneW 15 (x, y) = (x, 0) from rfl]
    go_enter Try.func31, Try.ntmps31
    go_wp2
    go_ret2
    exact ⟨rfl, rfl⟩
  · rw [show oneW 16 (x, y) = (y, 0) from rfl]
    go_enter Try.func31, Try.ntmps31
    go_wp2
    go_ret2
    exact ⟨rfl, rfl⟩
  · rw [show oneW 17 (x, y) = (x, cj y) from rfl]
    generalize cj y = c at *
    go_enter Try.func31, Try.ntmps31
    go_wp2_with (go_at_call 27; refine (hc _).mono ?_; rintro e w' ⟨rfl, rfl⟩)
    go_ret2
    exact ⟨rfl, rfl⟩

set_option maxHeartbeats 1000000 in
theorem ofTwo_any (op : Int) (a b : Wz) (w : World) (ha : ltZ a) (hb : ltZ b) (ho : 8 ≤ op ∧ op ≤ 11) :
    Calls Try.prog 32 #[.int .i64 op, .complex .f64 a.1 a.2, .complex .f64 b.1 b.2] w fun e w' => e = .returned (.tuple #[.complex .f64 (twoW op a b).1 (twoW op a b).2, .int .i64 (twoE op a b)]) ∧ Below w.heap.size w w' := by
  have c1 := fun W => add_any a.1 a.2 b.1 b.2 W ha.1 ha.2 hb.1 hb.2
  have c2 := fun W => sub_any a.1 a.2 b.1 b.2 W ha.1 ha.2 hb.1 hb.2
  have c3 := fun W => mul_any a.1 a.2 b.1 b.2 W ha.1 ha.2 hb.1 hb.2
  have c4 := fun W => quo_any a.1 a.2 b.1 b.2 W ha.1 ha.2 hb.1 hb.2
  have h4 : op = 8 ∨ op = 9 ∨ op = 10 ∨ op = 11 := by omega
  obtain ⟨x, y⟩ := a
  obtain ⟨u, v⟩ := b
  clear ho ha hb
  unfold opAns at c1 c2 c3
  unfold quoAns at c4
  simp only at *
  rcases h4 with rfl | rfl | rfl | rfl
  · rw [show twoW 8 (x, y) (u, v) = (opR addX addY x y u v, opI addX addY x y u v) from rfl, show twoE 8 (x, y) (u, v) = opE addX addY x y u v from rfl]
    generalize opR addX addY x y u v = r at *
    generalize opI addX addY x y u v = i at *
    generalize opE addX addY x y u v = k at *
    clear c2 c3 c4
    go_enter Try.func32, Try.ntmps32
    go_wp2_with (go_at_call 22; refine (c1 _).mono ?_; rintro e w' ⟨rfl, rfl⟩)
    go_ret2
    exact ⟨rfl, Below.refl _ _⟩
  · rw [show twoW 9 (x, y) (u, v) = (opR subX subY x y u v, opI subX subY x y u v) from rfl, show twoE 9 (x, y) (u, v) = opE subX subY x y u v from rfl]
    generalize opR subX subY x y u v = r at *
    generalize opI subX subY x y u v = i at *
    generalize opE subX subY x y u v = k at *
    clear c1 c3 c4
    go_enter Try.func32, Try.ntmps32
    go_wp2_with (go_at_call 23; refine (c2 _).mono ?_; rintro e w' ⟨rfl, rfl⟩)
    go_ret2
    exact ⟨rfl, Below.refl _ _⟩
  · rw [show twoW 10 (x, y) (u, v) = (opR mulX mulY x y u v, opI mulX mulY x y u v) from rfl, show twoE 10 (x, y) (u, v) = opE mulX mulY x y u v from rfl]
    generalize opR mulX mulY x y u v = r at *
    generalize opI mulX mulY x y u v = i at *
    generalize opE mulX mulY x y u v = k at *
    clear c1 c2 c4
    go_enter Try.func32, Try.ntmps32
    go_wp2_with (go_at_call 24; refine Calls.mono (c3 _) ?_; rintro e w' ⟨rfl, rfl⟩)
    go_ret2
    exact ⟨rfl, Below.refl _ _⟩
  · rw [show twoW 11 (x, y) (u, v) = (quoR x y u v, quoI x y u v) from rfl, show twoE 11 (x, y) (u, v) = quoE x y u v from rfl]
    generalize quoR x y u v = r at *
    generalize quoI x y u v = i at *
    generalize quoE x y u v = k at *
    clear c1 c2 c3
    go_enter Try.func32, Try.ntmps32
    go_wp2_with (go_at_call 25; refine (c4 _).mono ?_; rintro e w' ⟨rfl, nq, rfl⟩)
    go_ret2
    exact ⟨rfl, below_drewN (Below.refl _ _) _⟩
end Go.Proofs.Ytebpjcjoapahnaa
