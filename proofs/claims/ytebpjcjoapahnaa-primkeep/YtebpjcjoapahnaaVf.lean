/-
  The walks of the document's Valid, Same, Whole.
-/
import Derived.Test.YtebpjcjoapahnaaVe
namespace Go.Proofs.Ytebpjcjoapahnaa
open Go.RowKit
open Go.Lib
set_option maxRecDepth 100000

theorem sound_ref (v : Rv) : soundV v = (if v.t = 1 then (vc v.z.1 v.z.2 && allV v.zs) && !v.r && ((v.zs.length : Int) == 0)
    else if v.t = 2 then (vc v.z.1 v.z.2 && allV v.zs) && feW v.z (0, 0) && ((v.zs.length : Int) == 0)
    else if v.t = 3 then (vc v.z.1 v.z.2 && allV v.zs) && feW v.z (0, 0) && !v.r else false) := by
  obtain ⟨t, z, r, zs⟩ := v
  unfold soundV zeroV
  simp only
  rw [isEmpty_dec]
  have h0 : ((zs.length : Int) == 0) = true → allV zs = true := by
    intro h
    cases zs with
    | nil => rfl
    | cons a b => simp at h; omega
  split
  · cases h : ((zs.length : Int) == 0) with
    | true => rw [h0 h]; simp
    | false => simp
  · split
    · cases h : ((zs.length : Int) == 0) with
      | true => rw [h0 h]; simp [Bool.and_comm]
      | false => simp
    · split
      · cases vc z.1 z.2 <;> cases allV zs <;> cases feW z (0, 0) <;> cases r <;> rfl
      · rfl

theorem ofb_any (z : Wz) (w : World) (hz : ltZ z) :
    Calls Try.prog 34 #[.complex .f64 z.1 z.2] w fun e w' => e = .returned (.tuple #[.agg #[.int .i64 (ofX z.1 z.2), .int .i64 (ofY z.1 z.2)], .bool (vc z.1 z.2)]) ∧ Below w.heap.size w w' := by
  refine (of_any z.1 z.2 w hz.1 hz.2).mono ?_
  rintro e w' ⟨rfl, rfl⟩
  exact ⟨rfl, below_alloc _ _⟩

set_option maxHeartbeats 1000000 in
theorem rvalid_any (v : Rv) (ao : Option Addr) (cap : Nat) (w : World) (h : Vr w ao v) :
    Calls Try.prog 33 #[vV ao cap v] w fun e w' => e = .returned (.bool (soundV v)) ∧ Below w.heap.size w w' := by
  have m := V4.new w ao cap v
  have k := h.alloc (vObj ao cap v)
  have b0 := below_alloc w (vObj ao cap v)
  obtain ⟨N, hN⟩ : ∃ N, Hid (N = soundV v) := ⟨_, rfl⟩
  rw [← hN.out]
  have hz := h.z
  have hn := h.n
  obtain ⟨n, hnn⟩ : ∃ n, Hid (n = v.zs.length) := ⟨_, rfl⟩
  rw [← hnn.out] at hn
  clear h
  have hof := fun W => ofb_any v.z W hz
  unfold vV vObj at *
  rw [← hnn.out] at m k b0 ⊢
  go_enter Try.func33, Try.ntmps33
  obtain ⟨e1, e2, e3, e4⟩ := m
  simp only [Nat.zero_add] at e2 e3 e4
  rw [← hnn.out] at e4
  go_wp2_with fail
  refine (hof _).mono ?_
  rintro e w1 ⟨rfl, hb1⟩
  replace b0 := Below.thn b0 hb1
  replace k := k.up hb1
  have m : V4 w1 w.heap.size 0 ao cap v := (show V4 _ w.heap.size 0 ao cap v from ⟨e1, e2, e3, by rw [← hnn.out]; exact e4⟩).up hb1
  clear e1 e2 e3 e4 hof hb1 hz
  go_wp2_with fail
  have hb2 := below_alloc w1 (.cells #[.int .i64 (ofX v.z.1 v.z.2), .int .i64 (ofY v.z.1 v.z.2)] 68)
  replace b0 := Below.thn b0 hb2
  replace k := k.up hb2
  replace m := m.up hb2
  generalize w1.alloc (.cells #[.int .i64 (ofX v.z.1 v.z.2), .int .i64 (ofY v.z.1 v.z.2)] 68) = w2 at *
  clear hb2
  go_loopw [4, 5] (fun q i wr => ∃ k : Nat, k ≤ n ∧ i = .int .i64 k ∧ q = .bool (vc v.z.1 v.z.2 && allV (v.zs.take k)) ∧ Below w2.heap.size w2 wr) (fun _ i _ => n - (intOf i).toNat)
  case atStart => exact ⟨0, Nat.zero_le _, rfl, by simp [allV], Below.refl _ _⟩
  case round =>
    obtain ⟨j, hjn, rfl, rfl, hB⟩ := hrel
    obtain ⟨d1, d2, d3, d4⟩ := m.up hB
    simp only [Nat.zero_add] at d2 d3 d4
    rw [← hnn.out] at d4
    by_cases hlt : j < n
    · have hj : j < v.zs.length := by rw [← hnn.out]; exact hlt
      obtain ⟨b, off, rfl, hc⟩ := (k.up hB).l.pl (by intro e; rw [e] at hj; simp at hj)
      have hck := hc j hj
      have hgl := k.l.get_lt hj
      have hT := allV_take hj
      obtain ⟨z, hzd⟩ : ∃ z, z = v.zs.getD j (0, 0) := ⟨_, rfl⟩
      rw [← hzd] at hck hgl hT
      have hof := ofb_any z wr hgl
      have HT : Hid ((vc v.z.1 v.z.2 && allV (v.zs.take (j + 1))) = ((vc v.z.1 v.z.2 && allV (v.zs.take j)) && vc z.1 z.2)) := by show _ = _; rw [hT, Bool.and_assoc]
      clear hc hT hzd hgl
      generalize (vc v.z.1 v.z.2 && allV (v.zs.take j)) = q at *
      generalize vc z.1 z.2 = q2 at *
      go_wp2_with fail
      refine hof.mono ?_
      rintro e w3 ⟨rfl, hb3⟩
      cases q
      all_goals
        go_wp2_with fail
        go_roundw
        case rel => exact ⟨j + 1, by omega, by go_num, by rw [HT.out]; rfl, Below.thn hB (Below.thn hb3 (below_alloc _ _))⟩
        case measure => simp [intOf]; omega
    · have hje : j = n := by omega
      have hq : v.zs.take j = v.zs := List.take_of_length_le (by rw [← hnn.out]; omega)
      have hs := sound_ref v
      rw [← hN.out, ← hnn.out] at hs
      rw [hq]
      have HS : Hid (N = _) := hs
      clear hs hq hN k hnn m
      subst hje
      generalize (vc v.z.1 v.z.2 && allV v.zs) = q at *
      generalize v.zs = zs at *
      go_wp2
      all_goals
        go_ret
        refine ⟨ret_bool ?_, Below.thn b0 hB⟩
        rw [HS.out]
        simp_all [feW, Op.floatEq]
end Go.Proofs.Ytebpjcjoapahnaa
