/-
  HeapNil: a heap that isn't there answers an error to everything.
-/
import Derived.Test.YtdbnlgjpfkfnjaaDp
import Derived.Deep.DeepCutAuto
namespace Go.Proofs.Ytdbnlgjpfkfnjaa
open Go.RowKit
open Go.Lib
set_option maxRecDepth 100000

theorem ak_at {W X : World} {g : Nat} {q : Ak} (h : AkB W g q) (hX : Below W.heap.size W X) : X.cell? ⟨g, 1, none⟩ = some (.int .i64 q.a) ∧ X.cell? ⟨g, 2, none⟩ = some (.int .i64 q.c.k) ∧ X.cell? ⟨g, 3, none⟩ = some (.int .i64 q.c.a) ∧ X.cell? ⟨g, 4, none⟩ = some (.int .i64 q.c.x) ∧ X.cell? ⟨g, 5, none⟩ = some (.int .i64 q.c.y) ∧ X.cell? ⟨g, 6, none⟩ = some (.bool q.c.r) ∧ X.cell? ⟨g, 7, none⟩ = some (.bool q.c.b) ∧ X.cell? ⟨g, 8, none⟩ = some (.int .i64 q.d.k) ∧ X.cell? ⟨g, 9, none⟩ = some (.int .i64 q.d.a) ∧ X.cell? ⟨g, 10, none⟩ = some (.int .i64 q.d.x) ∧ X.cell? ⟨g, 11, none⟩ = some (.int .i64 q.d.y) ∧ X.cell? ⟨g, 12, none⟩ = some (.bool q.d.r) ∧ X.cell? ⟨g, 13, none⟩ = some (.bool q.d.b) ∧ Below W.heap.size W X := by
  have h' : AkB X g q := ⟨h.bk.up hX⟩
  obtain ⟨c0, c1, c2, c3, c4, c5, c6, c7, c8, c9, c10, c11, c12, c13⟩ := h'.cells
  exact ⟨c1, c2, c3, c4, c5, c6, c7, c8, c9, c10, c11, c12, c13, hX⟩
theorem ak_step {W X X' : World} {g : Nat} {q : Ak} (h : AkB W g q) (u : Below X.heap.size X X') (k : X.cell? ⟨g, 1, none⟩ = some (.int .i64 q.a) ∧ X.cell? ⟨g, 2, none⟩ = some (.int .i64 q.c.k) ∧ X.cell? ⟨g, 3, none⟩ = some (.int .i64 q.c.a) ∧ X.cell? ⟨g, 4, none⟩ = some (.int .i64 q.c.x) ∧ X.cell? ⟨g, 5, none⟩ = some (.int .i64 q.c.y) ∧ X.cell? ⟨g, 6, none⟩ = some (.bool q.c.r) ∧ X.cell? ⟨g, 7, none⟩ = some (.bool q.c.b) ∧ X.cell? ⟨g, 8, none⟩ = some (.int .i64 q.d.k) ∧ X.cell? ⟨g, 9, none⟩ = some (.int .i64 q.d.a) ∧ X.cell? ⟨g, 10, none⟩ = some (.int .i64 q.d.x) ∧ X.cell? ⟨g, 11, none⟩ = some (.int .i64 q.d.y) ∧ X.cell? ⟨g, 12, none⟩ = some (.bool q.d.r) ∧ X.cell? ⟨g, 13, none⟩ = some (.bool q.d.b) ∧ Below W.heap.size W X) : X'.cell? ⟨g, 1, none⟩ = some (.int .i64 q.a) ∧ X'.cell? ⟨g, 2, none⟩ = some (.int .i64 q.c.k) ∧ X'.cell? ⟨g, 3, none⟩ = some (.int .i64 q.c.a) ∧ X'.cell? ⟨g, 4, none⟩ = some (.int .i64 q.c.x) ∧ X'.cell? ⟨g, 5, none⟩ = some (.int .i64 q.c.y) ∧ X'.cell? ⟨g, 6, none⟩ = some (.bool q.c.r) ∧ X'.cell? ⟨g, 7, none⟩ = some (.bool q.c.b) ∧ X'.cell? ⟨g, 8, none⟩ = some (.int .i64 q.d.k) ∧ X'.cell? ⟨g, 9, none⟩ = some (.int .i64 q.d.a) ∧ X'.cell? ⟨g, 10, none⟩ = some (.int .i64 q.d.x) ∧ X'.cell? ⟨g, 11, none⟩ = some (.int .i64 q.d.y) ∧ X'.cell? ⟨g, 12, none⟩ = some (.bool q.d.r) ∧ X'.cell? ⟨g, 13, none⟩ = some (.bool q.d.b) ∧ Below W.heap.size W X' :=
  ak_at h (Below.thn k.2.2.2.2.2.2.2.2.2.2.2.2.2 u)

set_option maxHeartbeats 8000000 in
theorem heapNil_any (q : Ak) (w : World) : Calls Try.prog 6 #[akV q] w fun e w' => e = .returned (.bool true) ∧ Below w.heap.size w w' := by
  have b0 := below_alloc w (.cells (akC q).toArray 37)
  have hX0 : AkB (w.alloc (.cells (akC q).toArray 37)) w.heap.size q := ⟨Bk.new w 37 (akC q).toArray⟩
  unfold akV
  unfold akC at b0 hX0
  go_enter Try.func6, Try.ntmps6
  go_wp2_with fail
  refine (awake13_any _).mono ?_
  rintro e w1 ⟨rfl, u1⟩
  have hX1 : AkB w1 w.heap.size q := ⟨hX0.bk.up u1⟩
  have b1 := Below.thn b0 u1
  clear u1 hX0 b0
  have c1 : w1.cell? ⟨w.heap.size, 1, none⟩ = some (.int .i64 q.a) := hX1.bk.cell 1
  go_upto_region 6 with (first
    | (go_at_call 12; refine (delay_nil _ _).mono ?_; rintro e w2 ⟨rfl, u2⟩)
    | (go_at_call 13; refine (poison_nil _).mono ?_; rintro e W ⟨rfl, u3⟩))
  have b3 := Below.thn (Below.thn b1 u2) u3
  have hX3 : AkB W w.heap.size q := ⟨(hX1.bk.up u2).up u3⟩
  clear u2 u3 b1 hX1 c1
  have k0 : W.drew.cell? ⟨w.heap.size, 1, none⟩ = some (.int .i64 q.a) ∧ W.drew.cell? ⟨w.heap.size, 2, none⟩ = some (.int .i64 q.c.k) ∧ W.drew.cell? ⟨w.heap.size, 3, none⟩ = some (.int .i64 q.c.a) ∧ W.drew.cell? ⟨w.heap.size, 4, none⟩ = some (.int .i64 q.c.x) ∧ W.drew.cell? ⟨w.heap.size, 5, none⟩ = some (.int .i64 q.c.y) ∧ W.drew.cell? ⟨w.heap.size, 6, none⟩ = some (.bool q.c.r) ∧ W.drew.cell? ⟨w.heap.size, 7, none⟩ = some (.bool q.c.b) ∧ W.drew.cell? ⟨w.heap.size, 8, none⟩ = some (.int .i64 q.d.k) ∧ W.drew.cell? ⟨w.heap.size, 9, none⟩ = some (.int .i64 q.d.a) ∧ W.drew.cell? ⟨w.heap.size, 10, none⟩ = some (.int .i64 q.d.x) ∧ W.drew.cell? ⟨w.heap.size, 11, none⟩ = some (.int .i64 q.d.y) ∧ W.drew.cell? ⟨w.heap.size, 12, none⟩ = some (.bool q.d.r) ∧ W.drew.cell? ⟨w.heap.size, 13, none⟩ = some (.bool q.d.b) ∧ Below W.heap.size W W.drew := ak_at hX3 (Below.refl _ _).drew
  go_cut [8, 9] (fun x y wx => x = .int .i64 0 ∧ y = .int .i64 1 ∧ Below W.heap.size W wx)
  case first =>
    go_region_held3 (fun X => X.cell? ⟨w.heap.size, 1, none⟩ = some (.int .i64 q.a) ∧ X.cell? ⟨w.heap.size, 2, none⟩ = some (.int .i64 q.c.k) ∧ X.cell? ⟨w.heap.size, 3, none⟩ = some (.int .i64 q.c.a) ∧ X.cell? ⟨w.heap.size, 4, none⟩ = some (.int .i64 q.c.x) ∧ X.cell? ⟨w.heap.size, 5, none⟩ = some (.int .i64 q.c.y) ∧ X.cell? ⟨w.heap.size, 6, none⟩ = some (.bool q.c.r) ∧ X.cell? ⟨w.heap.size, 7, none⟩ = some (.bool q.c.b) ∧ X.cell? ⟨w.heap.size, 8, none⟩ = some (.int .i64 q.d.k) ∧ X.cell? ⟨w.heap.size, 9, none⟩ = some (.int .i64 q.d.a) ∧ X.cell? ⟨w.heap.size, 10, none⟩ = some (.int .i64 q.d.x) ∧ X.cell? ⟨w.heap.size, 11, none⟩ = some (.int .i64 q.d.y) ∧ X.cell? ⟨w.heap.size, 12, none⟩ = some (.bool q.d.r) ∧ X.cell? ⟨w.heap.size, 13, none⟩ = some (.bool q.d.b) ∧ Below W.heap.size W X) (first | with_reducible exact k0 | with_reducible assumption)
      (first
        | (go_at_call 15; refine (c_any ⟨_, _, _, _, _, _⟩ _).mono ?_; rintro e w4 ⟨rfl, u4⟩; have k4 := ak_step hX3 u4 (by assumption))
        | (go_at_call 14; refine (pair_nil _ _ _).mono ?_; rintro e w6 ⟨rfl, u6⟩; have k6 := ak_step hX3 u6 (by assumption)))
    all_goals
      have h6 := k6.2.2.2.2.2.2.2.2.2.2.2.2.2
      clear k0 k4 k6
      go_wp2_with fail
      go_meet
      case rel => exact ⟨rfl, rfl, h6⟩
  case rest =>
    obtain ⟨rfl, rfl, u4⟩ := hcut
    have b4 := Below.thn b3 u4
    have hX4 : AkB wc w.heap.size q := ⟨hX3.bk.up u4⟩
    clear k0 u4 b3 hX3
    generalize wc = w4 at *
    have hXl := hX4.bk.lt
    have c1 : w4.cell? ⟨w.heap.size, 1, none⟩ = some (.int .i64 q.a) := hX4.bk.cell 1
    go_wp2_with fail
    refine (look_nil _ _).mono ?_
    rintro e w5 ⟨rfl, u5⟩
    have hZ5 : Bk (w5.alloc (.cells #[.int .i64 0, .int .i64 0, .int .i64 0, .complex .f64 0 0, .bool false, .int .i64 0] 60)) w5.heap.size 60 (ndC nd0) := Bk.new w5 60 #[.int .i64 0, .int .i64 0, .int .i64 0, .complex .f64 0 0, .bool false, .int .i64 0]
    have v5 := below_alloc w5 (.cells #[.int .i64 0, .int .i64 0, .int .i64 0, .complex .f64 0 0, .bool false, .int .i64 0] 60)
    have s5 := u5.size
    go_upto_region 8 with (refine wpList_storeN rfl 60 (.tmp 10) (.tmp 51) rfl w5.heap.size 0 (ndC nd0) rfl rfl hZ5 (Nat.le_refl 6) Try.infoNd (ndC_one _) ?_; intro w6 l6 hO6)
    rw [over_nd] at l6
    have b6 := (Below.thn (Below.thn b4 u5) v5).trans (hO6.below (by omega))
    have hX6 : AkB w6 w.heap.size q := ⟨((hX4.bk.up u5).up v5).oth hO6 (by omega)⟩
    clear c1 hX4 b4 u5 v5 hO6 hZ5
    have c1 : w6.cell? ⟨w.heap.size, 1, none⟩ = some (.int .i64 q.a) := hX6.bk.cell 1
    go_wp2_with fail
    refine (parts_nil _ _).mono ?_
    rintro e w7 ⟨rfl, u7⟩
    obtain ⟨v7, hA7, hB7⟩ := new2 w7 55 #[.int .i64 0, .complex .f64 0 0, .bool false, .int .i64 0] #[.int .i64 0, .complex .f64 0 0, .bool false, .int .i64 0]
    have hA7 : Bk _ w7.heap.size 55 (clC cl0) := hA7
    have hB7 : Bk _ (w7.heap.size + 1) 55 (clC cl0) := hB7
    have s7 := u7.size
    have t6 := l6.lt
    go_upto_region 9 with (first
      | (refine wpList_storeN rfl 55 (.tmp 12) (.tmp 58) rfl w7.heap.size 0 (clC cl0) rfl rfl hA7 (Nat.le_refl 4) Try.infoCl (clC_one _) ?_; intro w8 p8 hO8; have hB8 := hB7.oth hO8 (by omega))
      | (refine wpList_storeN rfl 55 (.tmp 13) (.tmp 59) rfl (w7.heap.size + 1) 0 (clC cl0) rfl rfl hB8 (Nat.le_refl 4) Try.infoCl (clC_one _) ?_; intro w9 r9 hO9))
    rw [over_cl] at p8 r9
    have p9 := p8.oth hO9 (by omega)
    have b9 := ((Below.thn (Below.thn b6 u7) v7).trans (hO8.below (by omega))).trans (hO9.below (by omega))
    have hX9 : AkB w9 w.heap.size q := ⟨(((hX6.bk.up u7).up v7).oth hO8 (by omega)).oth hO9 (by omega)⟩
    have l9 := (((l6.up u7).up v7).oth hO8 (by omega)).oth hO9 (by omega)
    clear c1 hX6 b6 u7 v7 hO8 hO9 p8 l6 hA7 hB7 hB8
    have c1 : w9.cell? ⟨w.heap.size, 1, none⟩ = some (.int .i64 q.a) := hX9.bk.cell 1
    go_wp2_with fail
    refine (enter_nil _ _).mono ?_
    rintro e w10 ⟨rfl, u10⟩
    have hZ10 : Bk (w10.alloc (.cells #[.int .i64 0, .int .i64 0, .int .i64 0, .complex .f64 0 0, .bool false, .int .i64 0] 60)) w10.heap.size 60 (ndC nd0) := Bk.new w10 60 #[.int .i64 0, .int .i64 0, .int .i64 0, .complex .f64 0 0, .bool false, .int .i64 0]
    have v10 := below_alloc w10 (.cells #[.int .i64 0, .int .i64 0, .int .i64 0, .complex .f64 0 0, .bool false, .int .i64 0] 60)
    have s10 := u10.size
    have t9 := r9.lt
    go_upto_region 10 with (refine wpList_storeN rfl 60 (.tmp 15) (.tmp 66) rfl w10.heap.size 0 (ndC nd0) rfl rfl hZ10 (Nat.le_refl 6) Try.infoNd (ndC_one _) ?_; intro V m11 hO11)
    rw [over_nd] at m11
    have b11 := (Below.thn (Below.thn b9 u10) v10).trans (hO11.below (by omega))
    have hX11 : AkB V w.heap.size q := ⟨((hX9.bk.up u10).up v10).oth hO11 (by omega)⟩
    have l11 := ((l9.up u10).up v10).oth hO11 (by omega)
    have p11 := ((p9.up u10).up v10).oth hO11 (by omega)
    have r11 := ((r9.up u10).up v10).oth hO11 (by omega)
    clear c1 hX9 b9 u10 v10 hO11 hZ10 l9 p9 r9
    have k0 : V.drew.cell? ⟨w.heap.size, 1, none⟩ = some (.int .i64 q.a) ∧ V.drew.cell? ⟨w.heap.size, 2, none⟩ = some (.int .i64 q.c.k) ∧ V.drew.cell? ⟨w.heap.size, 3, none⟩ = some (.int .i64 q.c.a) ∧ V.drew.cell? ⟨w.heap.size, 4, none⟩ = some (.int .i64 q.c.x) ∧ V.drew.cell? ⟨w.heap.size, 5, none⟩ = some (.int .i64 q.c.y) ∧ V.drew.cell? ⟨w.heap.size, 6, none⟩ = some (.bool q.c.r) ∧ V.drew.cell? ⟨w.heap.size, 7, none⟩ = some (.bool q.c.b) ∧ V.drew.cell? ⟨w.heap.size, 8, none⟩ = some (.int .i64 q.d.k) ∧ V.drew.cell? ⟨w.heap.size, 9, none⟩ = some (.int .i64 q.d.a) ∧ V.drew.cell? ⟨w.heap.size, 10, none⟩ = some (.int .i64 q.d.x) ∧ V.drew.cell? ⟨w.heap.size, 11, none⟩ = some (.int .i64 q.d.y) ∧ V.drew.cell? ⟨w.heap.size, 12, none⟩ = some (.bool q.d.r) ∧ V.drew.cell? ⟨w.heap.size, 13, none⟩ = some (.bool q.d.b) ∧ Below V.heap.size V V.drew := ak_at hX11 (Below.refl _ _).drew
    go_cut [17] (fun x wx => x = .int .i64 1 ∧ Below V.heap.size V wx)
    case first =>
      go_region_held3 (fun X => X.cell? ⟨w.heap.size, 1, none⟩ = some (.int .i64 q.a) ∧ X.cell? ⟨w.heap.size, 2, none⟩ = some (.int .i64 q.c.k) ∧ X.cell? ⟨w.heap.size, 3, none⟩ = some (.int .i64 q.c.a) ∧ X.cell? ⟨w.heap.size, 4, none⟩ = some (.int .i64 q.c.x) ∧ X.cell? ⟨w.heap.size, 5, none⟩ = some (.int .i64 q.c.y) ∧ X.cell? ⟨w.heap.size, 6, none⟩ = some (.bool q.c.r) ∧ X.cell? ⟨w.heap.size, 7, none⟩ = some (.bool q.c.b) ∧ X.cell? ⟨w.heap.size, 8, none⟩ = some (.int .i64 q.d.k) ∧ X.cell? ⟨w.heap.size, 9, none⟩ = some (.int .i64 q.d.a) ∧ X.cell? ⟨w.heap.size, 10, none⟩ = some (.int .i64 q.d.x) ∧ X.cell? ⟨w.heap.size, 11, none⟩ = some (.int .i64 q.d.y) ∧ X.cell? ⟨w.heap.size, 12, none⟩ = some (.bool q.d.r) ∧ X.cell? ⟨w.heap.size, 13, none⟩ = some (.bool q.d.b) ∧ Below V.heap.size V X) (first | with_reducible exact k0 | with_reducible assumption)
        (first
          | (go_at_call 15; refine (c_any ⟨_, _, _, _, _, _⟩ _).mono ?_; rintro e w4 ⟨rfl, u4⟩; have k4 := ak_step hX11 u4 (by assumption))
          | (go_at_call 16; refine (upd_nil _ _ _).mono ?_; rintro e w6 ⟨rfl, u6⟩; have k6 := ak_step hX11 u6 (by assumption)))
      all_goals
        have h6 := k6.2.2.2.2.2.2.2.2.2.2.2.2.2
        clear k0 k4 k6
        go_wp2_with fail
        go_meet
        case rel => exact ⟨rfl, h6⟩
    case rest =>
      obtain ⟨rfl, u12⟩ := hcut
      have b12 := Below.thn b11 u12
      have l12 := l11.up u12
      have m12 := m11.up u12
      have p12 := p11.up u12
      have r12 := r11.up u12
      clear k0 u12 b11 l11 m11 p11 r11 hX11
      generalize wc = w12 at *
      go_wp2_with fail
      refine (counts_nil _).mono ?_
      rintro e w13 ⟨rfl, u13⟩
      have b13 := Below.thn b12 u13
      have l13 := l12.up u13
      have m13 := m12.up u13
      have p13 := p12.up u13
      have r13 := r12.up u13
      have v13 := below_alloc w13 (.cells #[.int .i64 0, .complex .f64 0 0, .bool false, .int .i64 0] 55)
      have n14 : Bk (w13.alloc (.cells #[.int .i64 0, .complex .f64 0 0, .bool false, .int .i64 0] 55)) w13.heap.size 55 (clC cl0) := Bk.new w13 55 #[.int .i64 0, .complex .f64 0 0, .bool false, .int .i64 0]
      have b14 := Below.thn b13 v13
      have l14 := l13.up v13
      have m14 := m13.up v13
      have p14 := p13.up v13
      have r14 := r13.up v13
      clear u13 b12 b13 l12 l13 m12 m13 p12 p13 r12 r13 v13
      have hal := fun W => alike_any nd0 nd0 W
      rw [alikeN_refl vc_zero] at hal
      have hsm := fun W => same_any cl0 cl0 W
      rw [sameC_refl vc_zero] at hsm
      obtain ⟨x0, x1, x2, x3, x4, x5⟩ := bk_nd l14
      go_wp2_with (first
        | (go_at_call 22; refine (hal _).mono ?_; rintro e w15 ⟨rfl, u15⟩; have b15 := Below.thn b14 u15; have m15 := m14.up u15; have p15 := p14.up u15; have r15 := r14.up u15; have n15 := n14.up u15; obtain ⟨y0, y1, y2, y3, y4, y5⟩ := bk_nd m15; clear b14 l14 m14 p14 r14 n14 x0 x1 x2 x3 x4 x5)
        | (go_at_call 22; refine (hal _).mono ?_; rintro e w16 ⟨rfl, u16⟩; have b16 := Below.thn b15 u16; have p16 := p15.up u16; have r16 := r15.up u16; have n16 := n15.up u16; obtain ⟨y0, y1, y2, y3⟩ := bk_cl p16; obtain ⟨z0, z1, z2, z3⟩ := bk_cl n16; clear b15 m15 p15 r15 n15 hal)
        | (go_at_call 19; refine (hsm _).mono ?_; rintro e w17 ⟨rfl, u17⟩; have b17 := Below.thn b16 u17; have r17 := r16.up u17; have n17 := n16.up u17; obtain ⟨x0, x1, x2, x3⟩ := bk_cl r17; obtain ⟨t0, t1, t2, t3⟩ := bk_cl n17; clear b16 p16 r16 n16 y0 y1 y2 y3 z0 z1 z2 z3)
        | (go_at_call 19; refine (hsm _).mono ?_; rintro e w18 ⟨rfl, u18⟩; have b18 := Below.thn b17 u18))
      go_ret
      exact ⟨rfl, b18⟩
end Go.Proofs.Ytdbnlgjpfkfnjaa
