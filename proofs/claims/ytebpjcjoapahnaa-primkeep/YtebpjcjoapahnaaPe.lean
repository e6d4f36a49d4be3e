/-
  The walk of Apply, whatever it is handed.
-/
import Derived.Test.YtebpjcjoapahnaaPd
namespace Go.Proofs.Ytebpjcjoapahnaa
open Go.RowKit
set_option maxRecDepth 100000

theorem Ar.fst {w : World} {ao : Option Addr} {i : Ai} {r : List Ai} (h : Ar w ao (i :: r)) :
    ∃ b off, ao = some ⟨b, off, none⟩ ∧ (∀ X, Below w.heap.size w X → X.cell? ⟨b, off + 1, none⟩ = some (.complex .f64 i.2.2.z.1 i.2.2.z.2)) ∧ (∀ X, Below w.heap.size w X → X.cell? ⟨b, off + 2, none⟩ = some (.bool i.2.2.r)) ∧
      (∀ j s, r = j :: s → ∀ X, Below w.heap.size w X → X.cell? ⟨b, off + 4 + 1, none⟩ = some (.complex .f64 j.2.2.z.1 j.2.2.z.2)) := by
  obtain ⟨b, off, e, hc⟩ := h.pl (by simp)
  refine ⟨b, off, e, fun X hX => ?_, fun X hX => ?_, fun j s hj X hX => ?_⟩
  · have := (hc 0 (by simp)).c1
    exact (hX.cell (cell_lt this)).trans (by simpa using this)
  · have := (hc 0 (by simp)).c2
    exact (hX.cell (cell_lt this)).trans (by simpa using this)
  · have := (hc 1 (by rw [hj]; simp)).c1
    refine (hX.cell (cell_lt this)).trans ?_
    rw [hj] at this
    simpa using this

theorem map_two {l : List Ai} {x y : Rv} (hv : l.map (·.2.2) = [x, y]) : ∃ i j : Ai, l = [i, j] ∧ i.2.2 = x ∧ j.2.2 = y := by
  cases l with
  | nil => simp at hv
  | cons i r =>
    cases r with
    | nil => simp at hv
    | cons j t =>
      cases t with
      | nil => simp only [List.map_cons, List.map_nil, List.cons.injEq, and_true] at hv; exact ⟨i, j, rfl, hv.1, hv.2⟩
      | cons k t => simp at hv
theorem map_one {l : List Ai} {x : Rv} (hv : l.map (·.2.2) = [x]) : ∃ i : Ai, l = [i] ∧ i.2.2 = x := by
  cases l with
  | nil => simp at hv
  | cons i r =>
    cases r with
    | nil => simp only [List.map_cons, List.map_nil, List.cons.injEq, and_true] at hv; exact ⟨i, rfl, hv⟩
    | cons j t => simp at hv

set_option maxHeartbeats 400000 in
theorem apply_any (op : Int) (ao : Option Addr) (cap : Nat) (l : List Ai) (w : World) (h : Ar w ao l) (hl : l.length < 4611686018427387904) :
    Calls Try.prog 12 #[.int .i64 op, .slice ao l.length cap] w fun e w' => e = .returned (.tuple #[vV none 0 (apV op (l.map (·.2.2))), .int .i64 (apE op (l.map (·.2.2)))]) ∧ Below w.heap.size w w' := by
  have hf := fun W (hW : Below w.heap.size w W) => fits_any op ao cap l W (h.up hW) hl
  obtain ⟨B, hF⟩ : ∃ B, fitB op (l.map (·.2.2)) = B := ⟨_, rfl⟩
  rw [hF] at hf
  cases B with
  | false =>
    rw [(ap_bad hF).1, (ap_bad hF).2]
    exact apply_bad op ao cap l.length w hf
  | true =>
    rcases fit_cases hF with ⟨ho, a, b, hv, ha, hb⟩ | ⟨rfl, r, hv⟩ | ⟨ho, a, hv, ha⟩
    · obtain ⟨i, j, rfl, hi, hj⟩ := map_two hv
      obtain ⟨bb, off, rfl, c1, _, c2⟩ := h.fst
      have c3 := c2 j [] rfl
      rw [hi] at c1
      rw [hj] at c3
      simp only [rn] at c1 c3
      rw [hv] at hF ⊢
      have la := vc_lt ha
      have lb := vc_lt hb
      by_cases e12 : op = 12
      · subst e12
        rw [(ap_eq hF).1, (ap_eq hF).2]
        exact apply_eq bb off cap a.1 a.2 b.1 b.2 _ _ w c1 c3 rfl rfl hf
      · by_cases e13 : op = 13
        · subst e13
          rw [(ap_less hF).1, (ap_less hF).2]
          exact apply_less bb off cap a.1 a.2 b.1 b.2 _ w c1 c3 (fun W => less_yes a.1 a.2 b.1 b.2 W ha hb) hf
        · have h4 : 8 ≤ op ∧ op ≤ 11 := by omega
          rw [(ap_two hF h4).1, (ap_two hF h4).2]
          exact apply_two op bb off cap a.1 a.2 b.1 b.2 _ _ _ w c1 c3 h4 (fun W => ofTwo_any op a b W la lb h4) hf
    · obtain ⟨i, rfl, hi⟩ := map_one hv
      obtain ⟨bb, off, rfl, _, c1, _⟩ := h.fst
      rw [hi] at c1
      simp only [rb] at c1
      rw [hv] at hF ⊢
      rw [(ap_not hF).1, (ap_not hF).2]
      exact apply_not bb off cap r w c1 hf
    · obtain ⟨i, rfl, hi⟩ := map_one hv
      obtain ⟨bb, off, rfl, c1, _, _⟩ := h.fst
      rw [hi] at c1
      simp only [rn] at c1
      rw [hv] at hF ⊢
      rw [(ap_one hF ho).1, (ap_one hF ho).2]
      exact apply_one op bb off cap a.1 a.2 _ _ w c1 ho (fun W => ofOne_any op a W ha ho) hf
end Go.Proofs.Ytebpjcjoapahnaa
