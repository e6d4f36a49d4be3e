/-
  The walk of the document's Parse of a value.
-/
import Derived.Test.YtbgggbkmnfppoaaGreatDoorZc
namespace Go.Proofs.YtbgggbkmnfppoaaGreatDoor
open Go.RowKit
set_option maxRecDepth 100000

theorem rgp_any (l : List UInt8) (hl : l.length ≤ 281474976710656) (w : World) :
    Calls Tryz.prog 32 #[.string (bs l)] w fun e w' => e = .returned (.tuple #[.agg #[.int .i64 ((rdG l).getD (0, 0)).1, .int .i64 ((rdG l).getD (0, 0)).2], .int .i64 (if (rdG l).isSome then 0 else 10)]) ∧ Below w.heap.size w w' := by
  refine (refparse_w l hl w).mono ?_
  rintro e w' ⟨rfl, hb⟩
  refine ⟨?_, hb⟩
  unfold rdP rdQ rdE rdG
  cases rdOk l with
  | true => rfl
  | false => rfl
theorem rz_any (x y : Int) (w : World) :
    Calls Tryz.prog 33 #[.agg #[.int .i64 x, .int .i64 y]] w fun e w' => e = .returned (.complex .f64 (wz (x, y)).1 (wz (x, y)).2) ∧ Below w.heap.size w w' := by
  refine (refz_any x y w).mono ?_
  rintro e w' ⟨rfl, rfl⟩
  exact ⟨rfl, below_alloc _ _⟩

theorem Tryz.infoN2 : (Tryz.prog.info? 64).map (·.size) = some 2 := by kernel_rfl
theorem one2 (x y : Int) : ∀ v ∈ ([.int .i64 x, .int .i64 y] : List Value), v.oneCell' = true := by
  intro v hv; simp only [List.mem_cons, List.not_mem_nil, or_false] at hv; rcases hv with rfl | rfl <;> rfl

def zV : List Value := [.int .i64 0, .complex .f64 0 0, .bool false, .slice none 0 0]

theorem Bk.kt {w w' : World} {B b : Nat} {T t : TypeId} {vs : List Value} (h : Bk w b t vs) (hK : Kt B T w w') (ht : t ≠ T) : Bk w' b t vs := (hK.own b _ _ _ h ht).trans h

set_option maxHeartbeats 2000000 in
/-- A text that is no list's. -/
theorem rparse_flat (l : List UInt8) (hl : l.length ≤ 2000000000000) (w : World) (hb : l = tTrue ∨ l = tFalse ∨ (∃ z, rdG l = some z ∧ l ≠ tTrue ∧ l ≠ tFalse) ∨ (rdG l = none ∧ l ≠ tTrue ∧ l ≠ tFalse ∧ brk l = false)) :
    Calls Tryz.prog 17 #[.string (bs l)] w fun e w' => PA w.heap.size (pvV rdG l) e w' ∧ Below w.heap.size w w' := by
  have hR0 := Bk.new w 35 #[.int .i64 0, .complex .f64 0 0, .bool false, .slice none 0 0]
  have b0 := below_alloc w (.cells #[.int .i64 0, .complex .f64 0 0, .bool false, .slice none 0 0] 35)
  obtain ⟨A, hA⟩ : ∃ A, A = pvV rdG l := ⟨_, rfl⟩
  rw [← hA]
  have t1 : ((bs l).toList == [116, 114, 117, 101]) = decide (l = tTrue) := by rw [bs_toList, Bool.eq_iff_iff, beq_iff_eq, decide_eq_true_eq]; exact Iff.rfl
  have t2 : ((bs l).toList == [102, 97, 108, 115, 101]) = decide (l = tFalse) := by rw [bs_toList, Bool.eq_iff_iff, beq_iff_eq, decide_eq_true_eq]; exact Iff.rfl
  rcases hb with h1 | h2 | ⟨z, hz, h1, h2⟩ | ⟨hz, h1, h2, hbr⟩
  · have hA2 : A = some (.b true) := by rw [hA]; unfold pvV; rw [if_pos h1]
    subst hA2
    rw [decide_eq_true h1] at t1
    clear hA t2 h1
    go_enter Tryz.func17, Tryz.ntmps17
    go_wp2_with (refine wpList_storeN rfl 35 (.tmp 2) (.tmp 19) rfl w.heap.size 0 [.int .i64 2, .complex .f64 0 0, .bool true, .slice none 0 0] rfl rfl hR0 (Nat.le_refl 4) Tryz.infoV (one4 _ _ _ _ _ _ _) ?_; intro w9 hB9 hO9)
    have z0 : w9.cell? ⟨w.heap.size, 0, none⟩ = some (.int .i64 2) := hB9.cell 0
    have z1 : w9.cell? ⟨w.heap.size, 1, none⟩ = some (.complex .f64 0 0) := hB9.cell 1
    have z2 : w9.cell? ⟨w.heap.size, 2, none⟩ = some (.bool true) := hB9.cell 2
    have z3 : w9.cell? ⟨w.heap.size, 3, none⟩ = some (.slice none 0 0) := hB9.cell 3
    go_wp2
    exact bodyPost_ret (v := .tuple #[.agg #[.int .i64 2, .complex .f64 0 0, .bool true, .slice none 0 0], .int .i64 0]) (by simp [results, Tryz.results17, go_sem, z0, z1, z2, z3]) rfl ⟨PA_bool _, b0.trans (hO9.below (Nat.le_refl _))⟩
  · have h1 : l ≠ tTrue := by rw [h2]; decide
    have hA2 : A = some (.b false) := by rw [hA]; unfold pvV; rw [if_neg h1, if_pos h2]
    subst hA2
    rw [decide_eq_false h1] at t1
    rw [decide_eq_true h2] at t2
    clear hA h1 h2
    go_enter Tryz.func17, Tryz.ntmps17
    go_wp2_with (refine wpList_storeN rfl 35 (.tmp 2) (.tmp 19) rfl w.heap.size 0 [.int .i64 2, .complex .f64 0 0, .bool false, .slice none 0 0] rfl rfl hR0 (Nat.le_refl 4) Tryz.infoV (one4 _ _ _ _ _ _ _) ?_; intro w9 hB9 hO9)
    have z0 : w9.cell? ⟨w.heap.size, 0, none⟩ = some (.int .i64 2) := hB9.cell 0
    have z1 : w9.cell? ⟨w.heap.size, 1, none⟩ = some (.complex .f64 0 0) := hB9.cell 1
    have z2 : w9.cell? ⟨w.heap.size, 2, none⟩ = some (.bool false) := hB9.cell 2
    have z3 : w9.cell? ⟨w.heap.size, 3, none⟩ = some (.slice none 0 0) := hB9.cell 3
    go_wp2
    exact bodyPost_ret (v := .tuple #[.agg #[.int .i64 2, .complex .f64 0 0, .bool false, .slice none 0 0], .int .i64 0]) (by simp [results, Tryz.results17, go_sem, z0, z1, z2, z3]) rfl ⟨PA_bool _, b0.trans (hO9.below (Nat.le_refl _))⟩
  · have hA2 : A = some (.n z) := by rw [hA]; exact pv_first rdG_rdr hz
    have hzk := (rdG_rdr.of _ _ hz).1
    rw [decide_eq_false h1] at t1
    rw [decide_eq_false h2] at t2
    have hgp := fun W => rgp_any l (by omega) W
    rw [hz] at hgp
    simp only [Option.getD_some, Option.isSome_some, if_true] at hgp
    have hrz := fun W => rz_any z.1 z.2 W
    have HP : Hid (∀ X, PA w.heap.size A (.returned (.tuple #[.agg #[.int .i64 1, .complex .f64 (wz z).1 (wz z).2, .bool false, .slice none 0 0], .int .i64 0])) X) := fun X => by rw [hA2]; exact PA_num hzk
    rw [show (z.1, z.2) = z from rfl] at hrz
    clear hA hA2 h1 h2 hz hzk
    generalize wz z = y at *
    generalize hW : w.alloc (.cells #[.int .i64 0, .complex .f64 0 0, .bool false, .slice none 0 0] 35) = W at *
    go_enter Tryz.func17, Tryz.ntmps17
    go_wp2_with fail
    refine (hgp _).mono ?_
    rintro e w1 ⟨rfl, hb1⟩
    clear hW
    go_wp2_with fail
    refine (hrz _).mono ?_
    rintro e w2 ⟨rfl, hb2⟩
    have b12 := Below.thn (Below.thn hb1 (below_alloc _ _)) hb2
    have hRr := hR0.up b12
    go_wp2_with (refine wpList_storeN rfl 35 (.tmp 2) (.tmp 29) rfl w.heap.size 0 [.int .i64 1, .complex .f64 y.1 y.2, .bool false, .slice none 0 0] rfl rfl hRr (Nat.le_refl 4) Tryz.infoV (one4 _ _ _ _ _ _ _) ?_; intro w9 hB9 hO9)
    have z0 : w9.cell? ⟨w.heap.size, 0, none⟩ = some (.int .i64 1) := hB9.cell 0
    have z1 : w9.cell? ⟨w.heap.size, 1, none⟩ = some (.complex .f64 y.1 y.2) := hB9.cell 1
    have z2 : w9.cell? ⟨w.heap.size, 2, none⟩ = some (.bool false) := hB9.cell 2
    have z3 : w9.cell? ⟨w.heap.size, 3, none⟩ = some (.slice none 0 0) := hB9.cell 3
    go_wp2
    exact bodyPost_ret (v := .tuple #[.agg #[.int .i64 1, .complex .f64 y.1 y.2, .bool false, .slice none 0 0], .int .i64 0]) (by simp [results, Tryz.results17, go_sem, z0, z1, z2, z3]) rfl ⟨HP.out _, (b0.trans (b12.mono b0.size)).trans (hO9.below (Nat.le_refl _))⟩
  · have hA2 : A = none := by rw [hA, pv_brk rdG_rdr h1 h2 hz, hbr]; rfl
    subst hA2
    rw [decide_eq_false h1] at t1
    rw [decide_eq_false h2] at t2
    have hgp := fun W => rgp_any l (by omega) W
    rw [hz] at hgp
    simp only [Option.getD_none, Option.isSome_none, Bool.false_eq_true, if_false] at hgp
    have hsz := bs_size l
    have hs0 : ∀ h : 0 < (bs l).size, (bs l)[0] = l.getD 0 0 := fun h => bs_get l 0 h
    have hsl : ∀ h : l.length - 1 < (bs l).size, (bs l)[l.length - 1] = l.getD (l.length - 1) 0 := fun h => bs_get l _ h
    have hbx : l.length < 2 ∨ (2 ≤ l.length ∧ l.getD 0 0 ≠ 91) ∨ (2 ≤ l.length ∧ l.getD 0 0 = 91 ∧ l.getD (l.length - 1) 0 ≠ 93) := by
      unfold brk at hbr
      by_cases g1 : 2 ≤ l.length
      · rw [decide_eq_true g1, Bool.true_and, Bool.and_eq_false_iff] at hbr
        by_cases g2 : l.getD 0 0 = 91
        · rcases hbr with h | h
          · rw [g2] at h; cases h
          · exact .inr (.inr ⟨g1, g2, by simpa using h⟩)
        · exact .inr (.inl ⟨g1, g2⟩)
      · exact .inl (by omega)
    clear hA h1 h2 hz hbr
    generalize hW : w.alloc (.cells #[.int .i64 0, .complex .f64 0 0, .bool false, .slice none 0 0] 35) = W at *
    have tobyte : ∀ (c d : UInt8) (n : Nat), d.toNat = n → c ≠ d → ((c.toNat : Int) != (n : Int)) = true := by
      intro c d n hd hc
      rw [bne_iff_ne]
      intro e
      apply hc
      apply UInt8.toNat.inj
      omega
    rcases hbx with g | ⟨g, g2⟩ | ⟨g, g2, g3⟩
    · have k1 : ((bs l).size : Int) < 2 := by omega
      have k9 : decide (((bs l).size : Int) < 2) = true := by simp; omega
      clear hs0 hsl tobyte hsz g
      generalize bs l = sl at *
      go_enter Tryz.func17, Tryz.ntmps17
      go_wp2_with fail
      refine (hgp _).mono ?_
      rintro e w1 ⟨rfl, hb1⟩
      clear hW
      have b12 := Below.thn hb1 (below_alloc w1 (.cells #[.int .i64 0, .int .i64 0] 64))
      have hRr := hR0.up b12
      go_wp2_with (refine wpList_storeN rfl 35 (.tmp 2) (.tmp 46) rfl w.heap.size 0 [.int .i64 0, .complex .f64 0 0, .bool false, .slice none 0 0] rfl rfl hRr (Nat.le_refl 4) Tryz.infoV (one4 _ _ _ _ _ _ _) ?_; intro w9 hB9 hO9)
      have z0 : w9.cell? ⟨w.heap.size, 0, none⟩ = some (.int .i64 0) := hB9.cell 0
      have z1 : w9.cell? ⟨w.heap.size, 1, none⟩ = some (.complex .f64 0 0) := hB9.cell 1
      have z2 : w9.cell? ⟨w.heap.size, 2, none⟩ = some (.bool false) := hB9.cell 2
      have z3 : w9.cell? ⟨w.heap.size, 3, none⟩ = some (.slice none 0 0) := hB9.cell 3
      go_wp2
      exact bodyPost_ret (v := .tuple #[.agg #[.int .i64 0, .complex .f64 0 0, .bool false, .slice none 0 0], .int .i64 11]) (by simp [results, Tryz.results17, go_sem, z0, z1, z2, z3]) rfl ⟨PA_none _ _, (b0.trans (b12.mono b0.size)).trans (hO9.below (Nat.le_refl _))⟩
    · have k0 : 0 < (bs l).size := by omega
      have k1 : ¬ ((bs l).size : Int) < 2 := by omega
      have k2 : (((bs l)[0].toNat : Int) != 91) = true := by rw [hs0 k0]; exact tobyte _ 91 91 rfl g2
      have k3 : (0 : Int) < ((bs l).size : Int) := by omega
      have k9 : decide (((bs l).size : Int) < 2) = false := by simp; omega
      clear hs0 hsl tobyte hsz g
      generalize bs l = sl at *
      go_enter Tryz.func17, Tryz.ntmps17
      go_wp2_with fail
      refine (hgp _).mono ?_
      rintro e w1 ⟨rfl, hb1⟩
      clear hW
      have b12 := Below.thn hb1 (below_alloc w1 (.cells #[.int .i64 0, .int .i64 0] 64))
      have hRr := hR0.up b12
      go_wp2_with (refine wpList_storeN rfl 35 (.tmp 2) (.tmp 46) rfl w.heap.size 0 [.int .i64 0, .complex .f64 0 0, .bool false, .slice none 0 0] rfl rfl hRr (Nat.le_refl 4) Tryz.infoV (one4 _ _ _ _ _ _ _) ?_; intro w9 hB9 hO9)
      have z0 : w9.cell? ⟨w.heap.size, 0, none⟩ = some (.int .i64 0) := hB9.cell 0
      have z1 : w9.cell? ⟨w.heap.size, 1, none⟩ = some (.complex .f64 0 0) := hB9.cell 1
      have z2 : w9.cell? ⟨w.heap.size, 2, none⟩ = some (.bool false) := hB9.cell 2
      have z3 : w9.cell? ⟨w.heap.size, 3, none⟩ = some (.slice none 0 0) := hB9.cell 3
      go_wp2
      exact bodyPost_ret (v := .tuple #[.agg #[.int .i64 0, .complex .f64 0 0, .bool false, .slice none 0 0], .int .i64 11]) (by simp [results, Tryz.results17, go_sem, z0, z1, z2, z3]) rfl ⟨PA_none _ _, (b0.trans (b12.mono b0.size)).trans (hO9.below (Nat.le_refl _))⟩
    · have k0 : 0 < (bs l).size := by omega
      have k1 : ¬ ((bs l).size : Int) < 2 := by omega
      have k2 : (((bs l)[0].toNat : Int) != 91) = false := by rw [hs0 k0, g2]; rfl
      have k3 : (0 : Int) < ((bs l).size : Int) := by omega
      have k4 : (bs l).size - 1 < (bs l).size := by omega
      have kw : wrap64 (((bs l).size : Int) - 1) = (((bs l).size - 1 : Nat) : Int) := by unfold wrap64; omega
      have k5 : ((bs l)[(bs l).size - 1] : UInt8) = l.getD (l.length - 1) 0 := by rw [bs_get l _ k4, hsz]
      have k6 : (((bs l)[(bs l).size - 1].toNat : Int) != 93) = true := by rw [k5]; exact tobyte _ 93 93 rfl g3
      have k9 : decide (((bs l).size : Int) < 2) = false := by simp; omega
      clear hs0 hsl tobyte k5 hsz g
      generalize bs l = sl at *
      go_enter Tryz.func17, Tryz.ntmps17
      go_wp2_with fail
      refine (hgp _).mono ?_
      rintro e w1 ⟨rfl, hb1⟩
      clear hW
      have b12 := Below.thn hb1 (below_alloc w1 (.cells #[.int .i64 0, .int .i64 0] 64))
      have hRr := hR0.up b12
      go_wp2_with (refine wpList_storeN rfl 35 (.tmp 2) (.tmp 46) rfl w.heap.size 0 [.int .i64 0, .complex .f64 0 0, .bool false, .slice none 0 0] rfl rfl hRr (Nat.le_refl 4) Tryz.infoV (one4 _ _ _ _ _ _ _) ?_; intro w9 hB9 hO9)
      have z0 : w9.cell? ⟨w.heap.size, 0, none⟩ = some (.int .i64 0) := hB9.cell 0
      have z1 : w9.cell? ⟨w.heap.size, 1, none⟩ = some (.complex .f64 0 0) := hB9.cell 1
      have z2 : w9.cell? ⟨w.heap.size, 2, none⟩ = some (.bool false) := hB9.cell 2
      have z3 : w9.cell? ⟨w.heap.size, 3, none⟩ = some (.slice none 0 0) := hB9.cell 3
      go_wp2
      exact bodyPost_ret (v := .tuple #[.agg #[.int .i64 0, .complex .f64 0 0, .bool false, .slice none 0 0], .int .i64 11]) (by simp [results, Tryz.results17, go_sem, z0, z1, z2, z3]) rfl ⟨PA_none _ _, (b0.trans (b12.mono b0.size)).trans (hO9.below (Nat.le_refl _))⟩
end Go.Proofs.YtbgggbkmnfppoaaGreatDoor
