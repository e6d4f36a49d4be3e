/-
  The walks of fathomref02.New, and of RowsMakes.
-/
import Derived.Test.YtiikkbofcccjfaaPk
namespace Go.Proofs.Ytiikkbofcccjfaa
open Go.RowKit
open RowsM
set_option maxRecDepth 100000

theorem made_ints (m : Nat) : (madeCells (Value.int .i64 0).cells (m * 1)).toList = (List.replicate m (0 : Nat)).map (fun z : Nat => Value.int .i64 z) := by
  rw [List.map_replicate]
  simp only [madeCells, Value.cells]
  apply List.ext_getElem
  · simp
  · intro i h1 h2
    simp [Nat.mod_one]

theorem packed_zeros {m : Nat} {L : List Nat} (h : Packed (List.replicate m 0) (List.replicate m 0).length L) : L = List.replicate ((m + 31) / 32) 0 := by
  have hz : ∀ (a t : Nat), (List.replicate a 0).getD t 0 = 0 := fun a t => by
    rw [List.getD_eq_getElem?_getD, List.getElem?_replicate]
    split <;> rfl
  refine packed_one h ?_ (by simp) fun q j _ _ => ?_
  · intro z hm
    rw [List.mem_replicate] at hm
    omega
  · rw [hz, hz]
    simp [cell]

/-- How a call ends that answers a row and an error. -/
def RowEnd (N E : Int) (L : List Nat) (w : World) (e : Ending) (w' : World) : Prop :=
  ∃ so cap, e = .returned (.tuple #[.agg #[.int .i64 N, .slice so L.length cap], .int .i64 E]) ∧ Rd w' so L ∧ Below w.heap.size w w'

set_option maxHeartbeats 1000000 in
theorem refnew_any (n : Int) (w : World) :
    Calls Try.prog 39 #[.int .i64 n] w fun e w' => RowEnd (if okN n then n else 0) (if okN n then 0 else 2) (zerosN n) w e w' := by
  have s1 := St.new w (.int .i64 0) (.slice none 0 0)
  have b1 := below_alloc w (.cells #[.int .i64 0, .slice none 0 0] 41)
  by_cases h : okN n = true
  · have h' : 0 ≤ n ∧ n ≤ 4096 := by simpa [okN] using h
    obtain ⟨h0, h1⟩ := h'
    have hZ := zerosN_yes h
    rw [h]
    simp only [if_true]
    generalize zerosN n = Z at *
    have H_Z : Hid (Z = List.replicate ((n + 31) / 32).toNat 0) := hZ
    clear h hZ
    obtain ⟨i0, hi, hz0, hz1, hz2⟩ := info_parts Try.infoI
    go_enter Try.func39, Try.ntmps39
    go_wp2_with (at_make; refine wpList_make_full _ rfl _ _ 48 rfl (w.heap.size + 1) 3 i0 (.int .i64 0) 1 Try.underI hi hz0 hz1 _ _ _ _ n.toNat rfl rfl (by omega) (by omega) (by rw [hz2]; omega) (by unfold maxLen; omega) (by simp) ?_; intro w1 hown hgrow; have hb := (Below.refl (w.heap.size + 1) _).grown hgrow (by simp) (by intro k hk; cases hk))
    rw [made_ints] at hown
    have hoi : Oi w1 (w.heap.size + 1) (.slice (some ⟨w.heap.size + 1, 0, none⟩) n.toNat n.toNat) (List.replicate n.toNat 0) := by
      unfold Oi
      rw [List.length_replicate]
      have e1 : (w.alloc (.cells #[.int .i64 0, .slice none 0 0] 41)).heap.size = w.heap.size + 1 := by simp
      rw [e1] at hown
      exact hown
    obtain ⟨ao, cap0, e0, hri⟩ := hoi.form
    have s2 : St w1 w.heap.size (.int .i64 0) (.slice none 0 0) := by unfold St; rw [hb.block _ (by omega)]; exact s1
    have b2 : Below w.heap.size w w1 := b1.trans (hb.mono (by omega))
    have hpk := pack_any ao cap0 (List.replicate n.toNat 0) w1 hri (by rw [List.length_replicate]; omega) (by intro c hc; rw [List.mem_replicate] at hc; omega)
    rw [← e0] at hpk
    clear e0 hri hoi hown hgrow s1 b1 hb
    refine hpk.mono ?_
    rintro e w2 ⟨so, cap, L, rfl, hP, hrd, hb2, hnw⟩
    obtain ⟨q0, q1, q2, q3⟩ := (s2.up hb2).cells
    have hs2 := (s2.up hb2).lt
    have b3 := Below.thn b2 hb2
    have hLe := packed_zeros hP
    have hnn : (((List.replicate n.toNat 0).length : Nat) : Int) = n := by rw [List.length_replicate]; omega
    rw [hnn]
    have e31 : (n.toNat + 31) / 32 = ((n + 31) / 32).toNat := by omega
    rw [e31] at hLe
    rw [← show Z = _ from H_Z] at hLe
    subst hLe
    clear hP hpk
    go_wp2
    refine bodyPost_ret (v := .tuple #[.agg #[.int .i64 n, .slice so L.length cap], .int .i64 0]) (by simp [results, Try.results39, go_sem, q0, q1]) rfl ⟨so, cap, rfl, ?_, ?_⟩
    · have hw1 := s2.lt
      refine (hrd.other ?_ _).other ?_ _
      · intro h b off e; have := hnw h b off e; show b ≠ w.heap.size; omega
      · intro h b off e; have := hnw h b off e; show b ≠ w.heap.size; omega
    · exact (b3.setCell (Nat.le_refl _) _).setCell (Nat.le_refl _) _
  · have h' : n < 0 ∨ 4096 < n := by simp [okN] at h; omega
    have h2 : okN n = false := by simpa using h
    rw [zerosN_no h2, h2]
    simp only [Bool.false_eq_true, if_false]
    clear h h2 s1
    rcases h' with h' | h'
    all_goals
      go_enter Try.func39, Try.ntmps39
      go_wp2_with fail
      refine bodyPost_ret (v := .tuple #[.agg #[.int .i64 0, .slice none 0 0], .int .i64 2]) (by simp [results, Try.results39, go_sem]) rfl ⟨none, 0, rfl, Rd.nil _ _, ?_⟩
      exact b1

end Go.Proofs.Ytiikkbofcccjfaa
