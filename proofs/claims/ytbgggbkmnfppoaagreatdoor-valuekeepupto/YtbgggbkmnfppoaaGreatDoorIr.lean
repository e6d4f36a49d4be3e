/-
  The walk of strings.IndexRune at the two signs, over runes above ASCII: it finds none.
-/
import Derived.Test.YtbgggbkmnfppoaaGreatDoorSh
import Derived.Test.YtbgggbkmnfppoaaGreatDoorWb
import Derived.Laws.Runes
import Derived.WalkMore
import Derived.Laws.RangeString
import Derived.Deep.QuietTactic
import Derived.BigQuiet
namespace Go.Proofs.YtbgggbkmnfppoaaGreatDoor
open Go.RowKit
set_option maxRecDepth 100000

set_option maxHeartbeats 400000 in
theorem validRune_w (r : Int) (h0 : 0 ≤ r) (h1 : r ≤ 1114111) (w : World) :
    Calls Tryz.prog 102 #[.int .i32 r] w fun e w' => e = .returned (.bool (decide (r < 55296) || decide (57343 < r))) ∧ w' = w := by
  by_cases h2 : r < 55296
  · rw [decide_eq_true h2]
    go_enter Tryz.func102, Tryz.ntmps102
    go_wp2
    go_ret
    exact ⟨rfl, rfl⟩
  · by_cases h3 : 57343 < r
    · rw [decide_eq_false h2, decide_eq_true h3]
      go_enter Tryz.func102, Tryz.ntmps102
      go_wp2
      go_ret
      exact ⟨rfl, rfl⟩
    · rw [decide_eq_false h2, decide_eq_false h3]
      go_enter Tryz.func102, Tryz.ntmps102
      go_wp2
      go_ret
      exact ⟨rfl, rfl⟩

set_option maxHeartbeats 1000000 in
theorem ir_error (w : World) :
    Calls Tryz.prog 80 #[.string ⟨#[43, 45]⟩, .int .i32 65533] w fun e w' => e = .returned (.int .i64 (-1)) ∧ Below w.heap.size w w' := by
  have n0 := run_next_ascii (P := Tryz.prog) w ⟨#[43, 45]⟩ 0 0 (by decide) (by decide)
  have n1 := run_next_ascii (P := Tryz.prog) w ⟨#[43, 45]⟩ 1 0 (by decide) (by decide)
  have n2 := run_next_end (P := Tryz.prog) w ⟨#[43, 45]⟩ 2 0 (by decide)
  have hb : Below w.heap.size w (w.iter ⟨#[43, 45]⟩ 2) := (Below.refl _ _).alloc (Nat.le_refl _) _
  go_enter Tryz.func80, Tryz.ntmps80
  go_wp2_with fail
  refine wp_loop_rounds 3 ?_
  rw [rounds_succ]
  go_wp2_with fail
  rw [rounds_succ]
  go_wp2_with fail
  rw [rounds_succ]
  go_wp2_with fail
  go_ret
  exact ⟨rfl, hb⟩

set_option maxHeartbeats 1000000 in
theorem ir_none (r : Int) (h0 : 128 ≤ r) (h1 : r ≤ 1114111) (h2 : (r == 65533) = false) (h3 : (decide (r < 55296) || decide (57343 < r)) = false) (w : World) :
    Calls Tryz.prog 80 #[.string ⟨#[43, 45]⟩, .int .i32 r] w fun e w' => e = .returned (.int .i64 (-1)) ∧ w' = w := by
  have hv := validRune_w r (by omega) h1
  rw [h3] at hv
  go_enter Tryz.func80, Tryz.ntmps80
  go_wp2_with (go_at_call 102; refine (hv _).mono ?_; rintro e w' ⟨rfl, rfl⟩)
  go_ret
  exact ⟨rfl, rfl⟩

set_option maxHeartbeats 1000000 in
theorem ir_long (r : Int) (n : Nat) (h0 : 128 ≤ r) (h1 : r ≤ 1114111) (h2 : (r == 65533) = false) (hn : 2 < n) (hn4 : n ≤ 4) (hs : (Utf8.encode r).size = n)
    (hv : ∀ w, Calls Tryz.prog 102 #[.int .i32 r] w fun e w' => e = .returned (.bool true) ∧ w' = w) (w : World) :
    Calls Tryz.prog 80 #[.string ⟨#[43, 45]⟩, .int .i32 r] w fun e w' => e = .returned (.int .i64 (-1)) ∧ w' = w := by
  have hi : ¬ (n : Int) - 1 < 2 := by omega
  have hcv := fun w => run_convert_int_string (P := Tryz.prog) w 21 9 .i32 r (by rw [Tryz.underlying21]; rfl) Tryz.underlying9
  go_enter Tryz.func80, Tryz.ntmps80
  go_wp2_with (go_at_call 102; refine (hv _).mono ?_; rintro e w' ⟨rfl, rfl⟩)
  go_step3
  go_wp2_with fail
  refine wp_loop_rounds 1 ?_
  rw [rounds_succ]
  go_wp2_with fail
  rw [Exit.noGoto_ret]
  go_ret
  exact ⟨rfl, rfl⟩

theorem ib_empty (s : ByteArray) (b : UInt8) (w : World) (hs : s.data.toList = []) :
    Calls Tryz.prog 101 #[.string s, .int .u8 b.toNat] w fun e w' => e = .returned (.int .i64 (-1)) ∧ w' = w := by
  refine (Tryz.strings_IndexByte s b.toNat w).mono ?_
  rintro e w' ⟨rfl, rfl⟩
  rw [hs]
  exact ⟨rfl, rfl⟩

set_option maxHeartbeats 1000000 in
theorem ir_two (r : Int) (h0 : 128 ≤ r) (h1 : r ≤ 1114111) (h2 : (r == 65533) = false) (hs : (Utf8.encode r).size = 2) (h128 : 128 ≤ ((Utf8.encode r)[1]'(by omega)).toNat)
    (hv : ∀ w, Calls Tryz.prog 102 #[.int .i32 r] w fun e w' => e = .returned (.bool true) ∧ w' = w) (w : World) :
    Calls Tryz.prog 80 #[.string ⟨#[43, 45]⟩, .int .i32 r] w fun e w' => e = .returned (.int .i64 (-1)) ∧ Below w.heap.size w w' := by
  have hw2 : IntKind.i64.wrap 2 = 2 := by decide
  have h45 : ((((⟨#[43, 45]⟩ : ByteArray)[1]'(by decide)).toNat : Int) != (((Utf8.encode r)[1]'(by omega)).toNat : Int)) = true := by
    rw [bne_iff_ne]
    show (45 : Int) ≠ _
    omega
  have hcv := fun w => run_convert_int_string (P := Tryz.prog) w 21 9 .i32 r (by rw [Tryz.underlying21]; rfl) Tryz.underlying9
  go_enter Tryz.func80, Tryz.ntmps80
  go_wp2_with (go_at_call 102; refine (hv _).mono ?_; rintro e w' ⟨rfl, rfl⟩)
  go_step3
  go_wp2_with fail
  refine wp_loop_rounds 1 ?_
  rw [rounds_succ]
  go_wp2_with fail
  go_step3
  go_wp2_with fail
  go_quiet (fail)
  go_wp2_with fail
  go_quiet (first | (go_at_call 101; exact (ib_empty ByteArray.empty _ _ rfl).mono (fun _ _ h => ⟨h.1, _, h.2⟩)))
  go_wp2_with fail
  simp only [Exit.noGoto_ret, Exit.inBlock, Exit.then]
  go_ret
  exact ⟨rfl, below_drewN (Below.refl _ _) _⟩

theorem ir_high (r : Nat) (h0 : 128 ≤ r) (h1 : r ≤ 1114111) (w : World) :
    Calls Tryz.prog 80 #[.string ⟨#[43, 45]⟩, .int .i32 r] w fun e w' => e = .returned (.int .i64 (-1)) ∧ Below w.heap.size w w' := by
  by_cases h2 : r = 65533
  · subst h2
    exact ir_error w
  · have h2' : ((r : Int) == 65533) = false := by rw [beq_eq_false_iff_ne]; omega
    cases h3 : (decide ((r : Int) < 55296) || decide (57343 < (r : Int))) with
    | false =>
      refine (ir_none r (by omega) (by omega) h2' h3 w).mono ?_
      rintro e w' ⟨rfl, rfl⟩
      exact ⟨rfl, Below.refl _ _⟩
    | true =>
      have hv := validRune_w r (by omega) (by omega)
      rw [h3] at hv
      have hV : Utf8.valid (r : Int) = true := by
        rw [validRune_eq]
        unfold validRune
        simp at h3
        simp
        omega
      obtain ⟨n1, n2, n3⟩ := encode_facts r hV (by omega)
      by_cases h8 : (Utf8.encode r).size = 2
      · have h7 := n3 (by omega)
        refine ir_two r (by omega) (by omega) h2' h8 ?_ hv w
        simpa [h8] using h7
      · refine (ir_long r _ (by omega) (by omega) h2' (by omega) n2 rfl hv w).mono ?_
        rintro e w' ⟨rfl, rfl⟩
        exact ⟨rfl, Below.refl _ _⟩
end Go.Proofs.YtbgggbkmnfppoaaGreatDoor
