/-
  The walk of the calls whose answers the document fixes.
-/
import Derived.Test.YtebpjcjoapahnaaPf
namespace Go.Proofs.Ytebpjcjoapahnaa
open Go.RowKit
set_option maxRecDepth 100000

theorem Ar.of2 {w : World} {g : Nat} {a b : Rv} (hB : Bk w g 32 [.int .i64 a.t, .complex .f64 a.z.1 a.z.2, .bool a.r, .slice none 0 0, .int .i64 b.t, .complex .f64 b.z.1 b.z.2, .bool b.r, .slice none 0 0]) (ha : a.zs = []) (la : ltZ a.z) (hb : b.zs = []) (lb : ltZ b.z) : Ar w (some ⟨g, 0, none⟩) [(none, 0, a), (none, 0, b)] := by
  refine ⟨fun _ => ⟨g, 0, rfl, fun t ht => ?_⟩, fun i hi => ?_⟩
  · have : t = 0 ∨ t = 1 := by simp at ht; omega
    rcases this with rfl | rfl
    · exact V4.row ha (hB.cell 0) (hB.cell 1) (hB.cell 2) (hB.cell 3)
    · exact V4.row hb (hB.cell 4) (hB.cell 5) (hB.cell 6) (hB.cell 7)
  · rcases List.mem_cons.1 hi with e | e
    · rw [e]; exact ⟨la, by rw [ha]; exact Zr.nil _ _, by rw [ha]; simp⟩
    · rw [List.mem_singleton.1 e]; exact ⟨lb, by rw [hb]; exact Zr.nil _ _, by rw [hb]; simp⟩

/-- Apply of two numbers that lie in a row. -/
theorem apply_two_at (op : Int) (x y u v : Nat) (hx : ltZ (x, y)) (hu : ltZ (u, v)) (W : World) (g : Nat) (h : Bk W g 32 [.int .i64 1, .complex .f64 x y, .bool false, .slice none 0 0, .int .i64 1, .complex .f64 u v, .bool false, .slice none 0 0]) {t : Int} {p q : Nat} {r : Bool} {k : Int}
    (hV : tV op (x, y) (u, v) = ⟨t, (p, q), r, []⟩) (hE : tE op (x, y) (u, v) = k) :
    Calls Try.prog 12 #[.int .i64 op, .slice (some ⟨g, 0, none⟩) 2 2] W fun e w' => e = .returned (.tuple #[.agg #[.int .i64 t, .complex .f64 p q, .bool r, .slice none 0 0], .int .i64 k]) ∧ Below W.heap.size W w' := by
  have hA := apply_any op _ 2 _ _ (Ar.of2 (a := rn (x, y)) (b := rn (u, v)) h rfl hx rfl hu) (by simp)
  have eV : vV none 0 (apV op (List.map (fun x : Ai => x.2.2) [(none, 0, rn (x, y)), (none, 0, rn (u, v))])) = .agg #[.int .i64 t, .complex .f64 p q, .bool r, .slice none 0 0] := by
    have : apV op (List.map (fun x : Ai => x.2.2) [(none, 0, rn (x, y)), (none, 0, rn (u, v))]) = ⟨t, (p, q), r, []⟩ := hV
    rw [this]; rfl
  have eE : apE op (List.map (fun x : Ai => x.2.2) [(none, 0, rn (x, y)), (none, 0, rn (u, v))]) = k := hE
  rw [eV, eE] at hA
  exact hA

theorem aw_V : tV 9 (4611686018427387904, 4607182418800017408) (0, 4613937818241073152) = ⟨1, (4611686018427387904, 13835058055282163712), false, []⟩ := by kernel_rfl
theorem aw_E : tE 9 (4611686018427387904, 4607182418800017408) (0, 4613937818241073152) = 0 := by kernel_rfl
theorem aw_W : tV 11 (4619567317775286272, 0) (4611686018427387904, 0) = ⟨0, (0, 0), false, []⟩ := by kernel_rfl
theorem aw_F : tE 11 (4619567317775286272, 0) (4611686018427387904, 0) = 51 := by kernel_rfl
theorem aw_T : tkN 14 = 1 ∧ tkT 14 = 2 := by decide

set_option maxHeartbeats 2000000 in
theorem awake10_any (w : World) :
    Calls Try.prog 8 #[] w fun e w' => e = .returned (.bool true) ∧ Below w.heap.size w w' := by
  have hcx := store_cx
  have o1 : FloatKind.f64.format.order 4611686018427387904 4611686018427387904 = some .eq := by decide
  have o2 : FloatKind.f64.format.order 13835058055282163712 13835058055282163712 = some .eq := by decide
  have h1 := fun W => lnum_any 4611686018427387904 4607182418800017408 W
  have h2 := fun W => lnum_any 0 4613937818241073152 W
  have h3 := fun W => lnum_any 4619567317775286272 0 W
  have h4 := fun W => lnum_any 4611686018427387904 0 W
  have hA := fun W g => apply_two_at 9 4611686018427387904 4607182418800017408 0 4613937818241073152 ⟨by decide, by decide⟩ ⟨by decide, by decide⟩ W g (hV := aw_V) (hE := aw_E)
  have hB := fun W g => apply_two_at 11 4619567317775286272 0 4611686018427387904 0 ⟨by decide, by decide⟩ ⟨by decide, by decide⟩ W g (hV := aw_W) (hE := aw_F)
  have ht := fun W => takes_any 14 W
  rw [aw_T.1, aw_T.2] at ht
  go_enter Try.func8, Try.ntmps8
  go_wp2_with fail
  refine (h1 _).mono ?_
  rintro e w1 ⟨rfl, hb1⟩
  go_upto_region 2 with fail
  have bW := Below.thn hb1 (below_alloc w1 (.cells #[.int .i64 1, .complex .f64 4611686018427387904 4607182418800017408, .bool false, .slice none 0 0] 32))
  have hX := Bk.new w1 32 #[.int .i64 1, .complex .f64 4611686018427387904 4607182418800017408, .bool false, .slice none 0 0]
  generalize (w1.alloc (.cells #[.int .i64 1, .complex .f64 4611686018427387904 4607182418800017408, .bool false, .slice none 0 0] 32)) = W at *
  go_cut [2, 3] (fun v2 v3 wx => ∃ g, v2 = .pointer (some ⟨g, 0, none⟩) ∧ v3 = .int .i64 0 ∧ Bk wx g 32 [.int .i64 1, .complex .f64 4611686018427387904 13835058055282163712, .bool false, .slice none 0 0] ∧ Below W.heap.size W wx)
  case first =>
    have hlt := hX.lt
    have HS : Hid (∀ X, Below W.heap.size W X → X.cell? ⟨w1.heap.size, 0, none⟩ = some (.int .i64 1) ∧ X.cell? ⟨w1.heap.size, 1, none⟩ = some (.complex .f64 4611686018427387904 4607182418800017408) ∧ X.cell? ⟨w1.heap.size, 2, none⟩ = some (.bool false) ∧ X.cell? ⟨w1.heap.size, 3, none⟩ = some (.slice none 0 0)) :=
      fun X hX' => ⟨(hX'.cell hlt).trans (hX.cell 0), (hX'.cell hlt).trans (hX.cell 1), (hX'.cell hlt).trans (hX.cell 2), (hX'.cell hlt).trans (hX.cell 3)⟩
    have s1 := HS.out W (Below.refl _ _)
    clear h1 h3 h4 hB ht hX
    have hk1 : Hid (∀ X : World, Bk (X.alloc (.cells #[.int .i64 1, .complex .f64 4611686018427387904 4607182418800017408, .bool false, .slice none 0 0, .int .i64 1, .complex .f64 0 4613937818241073152, .bool false, .slice none 0 0] 32)) X.heap.size 32 [.int .i64 1, .complex .f64 4611686018427387904 4607182418800017408, .bool false, .slice none 0 0, .int .i64 1, .complex .f64 0 4613937818241073152, .bool false, .slice none 0 0]) := fun X => Bk.new X 32 #[.int .i64 1, .complex .f64 4611686018427387904 4607182418800017408, .bool false, .slice none 0 0, .int .i64 1, .complex .f64 0 4613937818241073152, .bool false, .slice none 0 0]
    have hk2 : Hid (∀ X : World, Bk ((X.alloc (.cells #[.int .i64 0, .complex .f64 0 0, .bool false, .slice none 0 0] 32)).alloc (.cells #[.int .i64 1, .complex .f64 4611686018427387904 4607182418800017408, .bool false, .slice none 0 0, .int .i64 1, .complex .f64 0 4613937818241073152, .bool false, .slice none 0 0] 32)) (X.heap.size + 1) 32 [.int .i64 1, .complex .f64 4611686018427387904 4607182418800017408, .bool false, .slice none 0 0, .int .i64 1, .complex .f64 0 4613937818241073152, .bool false, .slice none 0 0]) := fun X => by
      have := Bk.new (X.alloc (.cells #[.int .i64 0, .complex .f64 0 0, .bool false, .slice none 0 0] 32)) 32 #[.int .i64 1, .complex .f64 4611686018427387904 4607182418800017408, .bool false, .slice none 0 0, .int .i64 1, .complex .f64 0 4613937818241073152, .bool false, .slice none 0 0]
      rwa [show (X.alloc (.cells #[.int .i64 0, .complex .f64 0 0, .bool false, .slice none 0 0] 32)).heap.size = X.heap.size + 1 by simp] at this
    have hk3 : Hid (∀ X : World, Bk ((X.alloc (.cells #[.int .i64 1, .complex .f64 4611686018427387904 4607182418800017408, .bool false, .slice none 0 0, .int .i64 1, .complex .f64 0 4613937818241073152, .bool false, .slice none 0 0] 32)).alloc (.cells #[.int .i64 0, .complex .f64 0 0, .bool false, .slice none 0 0] 32)) X.heap.size 32 [.int .i64 1, .complex .f64 4611686018427387904 4607182418800017408, .bool false, .slice none 0 0, .int .i64 1, .complex .f64 0 4613937818241073152, .bool false, .slice none 0 0]) := fun X => (Bk.new X 32 #[.int .i64 1, .complex .f64 4611686018427387904 4607182418800017408, .bool false, .slice none 0 0, .int .i64 1, .complex .f64 0 4613937818241073152, .bool false, .slice none 0 0]).alloc _
    have hz2 : Hid (∀ X : World, Bk ((X.alloc (.cells #[.int .i64 0, .complex .f64 0 0, .bool false, .slice none 0 0] 32)).alloc (.cells #[.int .i64 1, .complex .f64 4611686018427387904 4607182418800017408, .bool false, .slice none 0 0, .int .i64 1, .complex .f64 0 4613937818241073152, .bool false, .slice none 0 0] 32)) X.heap.size 32 [.int .i64 0, .complex .f64 0 0, .bool false, .slice none 0 0]) := fun X => (Bk.new X 32 #[.int .i64 0, .complex .f64 0 0, .bool false, .slice none 0 0]).alloc _
    have hz3 : Hid (∀ X : World, Bk ((X.alloc (.cells #[.int .i64 1, .complex .f64 4611686018427387904 4607182418800017408, .bool false, .slice none 0 0, .int .i64 1, .complex .f64 0 4613937818241073152, .bool false, .slice none 0 0] 32)).alloc (.cells #[.int .i64 0, .complex .f64 0 0, .bool false, .slice none 0 0] 32)) (X.heap.size + 1) 32 [.int .i64 0, .complex .f64 0 0, .bool false, .slice none 0 0]) := fun X => by
      have := Bk.new (X.alloc (.cells #[.int .i64 1, .complex .f64 4611686018427387904 4607182418800017408, .bool false, .slice none 0 0, .int .i64 1, .complex .f64 0 4613937818241073152, .bool false, .slice none 0 0] 32)) 32 #[.int .i64 0, .complex .f64 0 0, .bool false, .slice none 0 0]
      rwa [show (X.alloc (.cells #[.int .i64 1, .complex .f64 4611686018427387904 4607182418800017408, .bool false, .slice none 0 0, .int .i64 1, .complex .f64 0 4613937818241073152, .bool false, .slice none 0 0] 32)).heap.size = X.heap.size + 1 by simp] at this
    go_region_held3 (fun X => X.cell? ⟨w1.heap.size, 0, none⟩ = some (.int .i64 1) ∧ X.cell? ⟨w1.heap.size, 1, none⟩ = some (.complex .f64 4611686018427387904 4607182418800017408) ∧ X.cell? ⟨w1.heap.size, 2, none⟩ = some (.bool false) ∧ X.cell? ⟨w1.heap.size, 3, none⟩ = some (.slice none 0 0))
      ((refine HS.out _ ?_; repeat (first | (with_reducible exact bn) | (with_reducible exact ba) | exact Below.refl _ _ | refine Below.setCell ?_ (Nat.le_refl W.heap.size) _ | refine Below.setCell ?_ (show W.heap.size ≤ wn.heap.size from bn.size) _ | refine Below.setCell ?_ (show W.heap.size ≤ wn.heap.size + 1 from Nat.le_succ_of_le bn.size) _ | refine Below.thn ?_ (below_alloc _ _) | refine Below.drew ?_))) (first
      | (go_at_call 18; (with_reducible refine Calls.mono (h2 _) ?_); rintro e wn ⟨rfl, hbn⟩; first
        | (have bn := Below.thn (Below.refl W.heap.size W).drew hbn)
        | (have bn := Below.thn (below_alloc W (.cells #[.int .i64 0, .complex .f64 0 0, .bool false, .slice none 0 0] 32)).drew hbn; have hg := (show Bk (World.drew (W.alloc (.cells #[.int .i64 0, .complex .f64 0 0, .bool false, .slice none 0 0] 32))) W.heap.size 32 [.int .i64 0, .complex .f64 0 0, .bool false, .slice none 0 0] from Bk.new W 32 #[.int .i64 0, .complex .f64 0 0, .bool false, .slice none 0 0]).up hbn))
      | (go_at_call 12; (with_reducible refine Calls.mono (hA _ _ (hk1.out wn)) ?_); rintro e wa ⟨rfl, hba⟩; have ba := Below.thn bn (Below.thn (below_alloc wn (.cells #[.int .i64 1, .complex .f64 4611686018427387904 4607182418800017408, .bool false, .slice none 0 0, .int .i64 1, .complex .f64 0 4613937818241073152, .bool false, .slice none 0 0] 32)) hba); first
        | (have hga := (hg.alloc (.cells #[.int .i64 1, .complex .f64 4611686018427387904 4607182418800017408, .bool false, .slice none 0 0, .int .i64 1, .complex .f64 0 4613937818241073152, .bool false, .slice none 0 0] 32)).up hba; have g0 : wa.cell? ⟨W.heap.size, 0, none⟩ = some (.int .i64 0) := hga.cell 0; have f0 : wa.frozen? ⟨W.heap.size, 0, none⟩ = false := hga.frz 0; have g1 : wa.cell? ⟨W.heap.size, 1, none⟩ = some (.complex .f64 0 0) := hga.cell 1; have f1 : wa.frozen? ⟨W.heap.size, 1, none⟩ = false := hga.frz 1; have g2 : wa.cell? ⟨W.heap.size, 2, none⟩ = some (.bool false) := hga.cell 2; have f2 : wa.frozen? ⟨W.heap.size, 2, none⟩ = false := hga.frz 2; have g3 : wa.cell? ⟨W.heap.size, 3, none⟩ = some (.slice none 0 0) := hga.cell 3; have f3 : wa.frozen? ⟨W.heap.size, 3, none⟩ = false := hga.frz 3)
        | skip)
      | (go_at_call 12; (with_reducible refine Calls.mono (hA _ _ (hk2.out wn)) ?_); rintro e wa ⟨rfl, hba⟩; have ba := Below.thn bn (Below.thn (Below.thn (below_alloc wn (.cells #[.int .i64 0, .complex .f64 0 0, .bool false, .slice none 0 0] 32)) (below_alloc _ (.cells #[.int .i64 1, .complex .f64 4611686018427387904 4607182418800017408, .bool false, .slice none 0 0, .int .i64 1, .complex .f64 0 4613937818241073152, .bool false, .slice none 0 0] 32))) hba); have hga := (hz2.out wn).up hba; have g0 : wa.cell? ⟨wn.heap.size, 0, none⟩ = some (.int .i64 0) := hga.cell 0; have f0 : wa.frozen? ⟨wn.heap.size, 0, none⟩ = false := hga.frz 0; have g1 : wa.cell? ⟨wn.heap.size, 1, none⟩ = some (.complex .f64 0 0) := hga.cell 1; have f1 : wa.frozen? ⟨wn.heap.size, 1, none⟩ = false := hga.frz 1; have g2 : wa.cell? ⟨wn.heap.size, 2, none⟩ = some (.bool false) := hga.cell 2; have f2 : wa.frozen? ⟨wn.heap.size, 2, none⟩ = false := hga.frz 2; have g3 : wa.cell? ⟨wn.heap.size, 3, none⟩ = some (.slice none 0 0) := hga.cell 3; have f3 : wa.frozen? ⟨wn.heap.size, 3, none⟩ = false := hga.frz 3)
      | (go_at_call 12; (with_reducible refine Calls.mono (hA _ _ (hk3.out wn)) ?_); rintro e wa ⟨rfl, hba⟩; have ba := Below.thn bn (Below.thn (Below.thn (below_alloc wn (.cells #[.int .i64 1, .complex .f64 4611686018427387904 4607182418800017408, .bool false, .slice none 0 0, .int .i64 1, .complex .f64 0 4613937818241073152, .bool false, .slice none 0 0] 32)) (below_alloc _ (.cells #[.int .i64 0, .complex .f64 0 0, .bool false, .slice none 0 0] 32))) hba); have hga := (hz3.out wn).up hba; have g0 : wa.cell? ⟨wn.heap.size + 1, 0, none⟩ = some (.int .i64 0) := hga.cell 0; have f0 : wa.frozen? ⟨wn.heap.size + 1, 0, none⟩ = false := hga.frz 0; have g1 : wa.cell? ⟨wn.heap.size + 1, 1, none⟩ = some (.complex .f64 0 0) := hga.cell 1; have f1 : wa.frozen? ⟨wn.heap.size + 1, 1, none⟩ = false := hga.frz 1; have g2 : wa.cell? ⟨wn.heap.size + 1, 2, none⟩ = some (.bool false) := hga.cell 2; have f2 : wa.frozen? ⟨wn.heap.size + 1, 2, none⟩ = false := hga.frz 2; have g3 : wa.cell? ⟨wn.heap.size + 1, 3, none⟩ = some (.slice none 0 0) := hga.cell 3; have f3 : wa.frozen? ⟨wn.heap.size + 1, 3, none⟩ = false := hga.frz 3)
      | fail)
    all_goals
      go_wp2_with fail
      go_meet
      case rel =>
        refine ⟨_, rfl, rfl, ?_, ?_⟩
        · first
            | exact (((hga.set 0 _).set 1 _).set 2 _).set 3 _
            | exact Bk.new wa 32 #[.int .i64 1, .complex .f64 4611686018427387904 13835058055282163712, .bool false, .slice none 0 0]
        · first
            | (have hga2 := hga
               refine Below.setCell (Below.setCell (Below.setCell (Below.setCell ba ?_ _) ?_ _) ?_ _) ?_ _
               all_goals first | exact Nat.le_refl W.heap.size | exact bn.size | exact Nat.le_succ_of_le bn.size)
            | exact Below.thn ba (below_alloc _ _)
  case rest =>
    obtain ⟨g, rfl, rfl, hG, hBc⟩ := hcut
    have HG : Hid (Bk wc g 32 [.int .i64 1, .complex .f64 4611686018427387904 13835058055282163712, .bool false, .slice none 0 0]) := hG
    clear hG hA hX h1 h2
    have bw := bW.trans (hBc.mono bW.size)
    go_wp2_with fail
    refine (h3 _).mono ?_
    rintro e w3 ⟨rfl, hb3⟩
    go_wp2_with fail
    refine (h4 _).mono ?_
    rintro e w4 ⟨rfl, hb4⟩
    go_wp2_with fail
    refine (hB _ _ (Bk.new w4 32 #[.int .i64 1, .complex .f64 4619567317775286272 0, .bool false, .slice none 0 0, .int .i64 1, .complex .f64 4611686018427387904 0, .bool false, .slice none 0 0])).mono ?_
    rintro e w5 ⟨rfl, hb5⟩
    have b5 := Below.thn hb3 (Below.thn hb4 (Below.thn (below_alloc w4 (.cells #[.int .i64 1, .complex .f64 4619567317775286272 0, .bool false, .slice none 0 0, .int .i64 1, .complex .f64 4611686018427387904 0, .bool false, .slice none 0 0] 32)) hb5))
    have hG5 := HG.out.up b5
    have c0 : w5.cell? ⟨g, 0, none⟩ = some (.int .i64 1) := hG5.cell 0
    have c1 : w5.cell? ⟨g, 1, none⟩ = some (.complex .f64 4611686018427387904 13835058055282163712) := hG5.cell 1
    have hlt := hG5.lt
    clear HG h3 h4 hB
    go_wp2_with (go_at_call 9; refine (ht _).mono ?_; rintro e w' ⟨rfl, hw'⟩; rw [hw']; clear hw')
    go_ret
    exact ⟨rfl, Below.thn bw (Below.thn b5 (below_alloc _ _))⟩
end Go.Proofs.Ytebpjcjoapahnaa
