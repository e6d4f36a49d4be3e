/-
  The walk of PrimKeep.
-/
import Derived.Test.YtebpjcjoapahnaaQb
import Derived.Deep.RegionHeld3
import Derived.Deep.DeepCutAuto
namespace Go.Proofs.Ytebpjcjoapahnaa
open Go.RowKit
set_option maxRecDepth 100000

theorem Bk.c4 {w : World} {b : Nat} {t : TypeId} {x0 x1 x2 x3 : Value} (h : Bk w b t [x0, x1, x2, x3]) : (w.cell? ⟨b, 0, none⟩ = some x0 ∧ w.cell? ⟨b, 1, none⟩ = some x1 ∧ w.cell? ⟨b, 2, none⟩ = some x2 ∧ w.cell? ⟨b, 3, none⟩ = some x3) ∧ w.frozen? ⟨b, 0, none⟩ = false ∧ w.frozen? ⟨b, 1, none⟩ = false ∧ w.frozen? ⟨b, 2, none⟩ = false ∧ w.frozen? ⟨b, 3, none⟩ = false :=
  ⟨⟨h.cell 0, h.cell 1, h.cell 2, h.cell 3⟩, h.frz 0, h.frz 1, h.frz 2, h.frz 3⟩

/-- A law's value that is handed in. -/
structure Qr (w : World) (ao : Option Addr) (q : Qv) : Prop where
  l : Nr w ao q.l
  n : q.l.length ≤ 5864062014806
theorem Qr.up {w w' : World} {ao : Option Addr} {q : Qv} (h : Qr w ao q) (hb : Below w.heap.size w w') : Qr w' ao q := ⟨h.l.up hb, h.n⟩

/-- The first of a row of values, the first two. -/
theorem Ar.pre1 {w : World} {g : Nat} {u v : Rv} {a1 a2 : Option Addr} {c1 c2 : Nat} {r : List Value} (hB : Bk w g 32 ([.int .i64 u.t, .complex .f64 u.z.1 u.z.2, .bool u.r, .slice a1 u.zs.length c1, .int .i64 v.t, .complex .f64 v.z.1 v.z.2, .bool v.r, .slice a2 v.zs.length c2] ++ r)) (h1 : Vr w a1 u) : Ar w (some ⟨g, 0, none⟩) [(a1, c1, u)] := by
  refine ⟨fun _ => ⟨g, 0, rfl, fun t ht => ?_⟩, fun i hi => ?_⟩
  · have : t = 0 := by simp at ht; exact ht
    subst this
    exact ⟨hB.cell 0, hB.cell 1, hB.cell 2, hB.cell 3⟩
  · rw [List.mem_singleton.1 hi]; exact h1
theorem Ar.pre2 {w : World} {g : Nat} {u v : Rv} {a1 a2 : Option Addr} {c1 c2 : Nat} {r : List Value} (hB : Bk w g 32 ([.int .i64 u.t, .complex .f64 u.z.1 u.z.2, .bool u.r, .slice a1 u.zs.length c1, .int .i64 v.t, .complex .f64 v.z.1 v.z.2, .bool v.r, .slice a2 v.zs.length c2] ++ r)) (h1 : Vr w a1 u) (h2 : Vr w a2 v) : Ar w (some ⟨g, 0, none⟩) [(a1, c1, u), (a2, c2, v)] := by
  refine ⟨fun _ => ⟨g, 0, rfl, fun t ht => ?_⟩, fun i hi => ?_⟩
  · have : t = 0 ∨ t = 1 := by simp at ht; omega
    rcases this with rfl | rfl
    · exact ⟨hB.cell 0, hB.cell 1, hB.cell 2, hB.cell 3⟩
    · exact ⟨hB.cell 4, hB.cell 5, hB.cell 6, hB.cell 7⟩
  · rcases List.mem_cons.1 hi with e | e
    · rw [e]; exact h1
    · rw [List.mem_singleton.1 e]; exact h2

set_option maxHeartbeats 1600000 in
theorem primKeep_any (op : Int) (qa qb : Qv) (x1 x2 : Option Addr) (y1 y2 : Nat) (w : World) (h1 : Qr w x1 qa) (h2 : Qr w x2 qb) :
    Calls Try.prog 6 #[.int .i64 op, qV x1 y1 qa, qV x2 y2 qb] w fun e w' => e = .returned (.bool true) ∧ Below w.heap.size w w' := by
  have b0 := Below.thn (below_alloc w (.cells #[.int .i64 qa.t, .int .i64 qa.z.x, .int .i64 qa.z.y, .bool qa.z.r, .bool qa.b, .slice x1 qa.l.length y1] 37)) (below_alloc _ (.cells #[.int .i64 qb.t, .int .i64 qb.z.x, .int .i64 qb.z.y, .bool qb.z.r, .bool qb.b, .slice x2 qb.l.length y2] 37))
  have m1 := (Bk.new w 37 #[.int .i64 qa.t, .int .i64 qa.z.x, .int .i64 qa.z.y, .bool qa.z.r, .bool qa.b, .slice x1 qa.l.length y1]).up (below_alloc _ (.cells #[.int .i64 qb.t, .int .i64 qb.z.x, .int .i64 qb.z.y, .bool qb.z.r, .bool qb.b, .slice x2 qb.l.length y2] 37))
  have m2 := Bk.new (w.alloc (.cells #[.int .i64 qa.t, .int .i64 qa.z.x, .int .i64 qa.z.y, .bool qa.z.r, .bool qa.b, .slice x1 qa.l.length y1] 37)) 37 #[.int .i64 qb.t, .int .i64 qb.z.x, .int .i64 qb.z.y, .bool qb.z.r, .bool qb.b, .slice x2 qb.l.length y2]
  rw [show (w.alloc (.cells #[.int .i64 qa.t, .int .i64 qa.z.x, .int .i64 qa.z.y, .bool qa.z.r, .bool qa.b, .slice x1 qa.l.length y1] 37)).heap.size = w.heap.size + 1 by simp] at m2
  have k1 := h1.up b0
  have k2 := h2.up b0
  have hV1 := fun W (hW : Qr W x1 qa) => valV_any qa x1 y1 W hW.l hW.n
  have hV2 := fun W (hW : Qr W x2 qb) => valV_any qb x2 y2 W hW.l hW.n
  unfold qV at *
  simp only [vV] at hV1 hV2
  obtain ⟨ua, hua⟩ : ∃ u, Hid (u = qa.rv) := ⟨_, rfl⟩
  obtain ⟨ub, hub⟩ : ∃ u, Hid (u = qb.rv) := ⟨_, rfl⟩
  rw [← hua.out] at hV1
  rw [← hub.out] at hV2
  clear hua hub
  generalize hW0 : (w.alloc (.cells #[.int .i64 qa.t, .int .i64 qa.z.x, .int .i64 qa.z.y, .bool qa.z.r, .bool qa.b, .slice x1 qa.l.length y1] 37)).alloc (.cells #[.int .i64 qb.t, .int .i64 qb.z.x, .int .i64 qb.z.y, .bool qb.z.r, .bool qb.b, .slice x2 qb.l.length y2] 37) = W0 at *
  go_enter Try.func6, Try.ntmps6
  go_wp2_with fail
  refine (awake10_any _).mono ?_
  rintro e W ⟨rfl, hb1⟩
  clear hW0
  have HM1 : Hid (Bk W w.heap.size 37 [.int .i64 qa.t, .int .i64 qa.z.x, .int .i64 qa.z.y, .bool qa.z.r, .bool qa.b, .slice x1 qa.l.length y1]) := m1.up hb1
  have HM2 : Hid (Bk W (w.heap.size + 1) 37 [.int .i64 qb.t, .int .i64 qb.z.x, .int .i64 qb.z.y, .bool qb.z.r, .bool qb.b, .slice x2 qb.l.length y2]) := m2.up hb1
  have K1 := k1.up hb1
  have K2 := k2.up hb1
  have bW := Below.thn b0 hb1
  clear b0 m1 m2 k1 k2 h1 h2 hb1
  have HS : Hid (∀ X, Below W.heap.size W X → X.cell? ⟨w.heap.size, 0, none⟩ = some (.int .i64 qa.t) ∧ X.cell? ⟨w.heap.size, 1, none⟩ = some (.int .i64 qa.z.x) ∧ X.cell? ⟨w.heap.size, 2, none⟩ = some (.int .i64 qa.z.y) ∧ X.cell? ⟨w.heap.size, 3, none⟩ = some (.bool qa.z.r) ∧ X.cell? ⟨w.heap.size, 4, none⟩ = some (.bool qa.b) ∧ X.cell? ⟨w.heap.size, 5, none⟩ = some (.slice x1 qa.l.length y1) ∧ X.cell? ⟨w.heap.size + 1, 0, none⟩ = some (.int .i64 qb.t) ∧ X.cell? ⟨w.heap.size + 1, 1, none⟩ = some (.int .i64 qb.z.x) ∧ X.cell? ⟨w.heap.size + 1, 2, none⟩ = some (.int .i64 qb.z.y) ∧ X.cell? ⟨w.heap.size + 1, 3, none⟩ = some (.bool qb.z.r) ∧ X.cell? ⟨w.heap.size + 1, 4, none⟩ = some (.bool qb.b) ∧ X.cell? ⟨w.heap.size + 1, 5, none⟩ = some (.slice x2 qb.l.length y2)) := fun X hX =>
    ⟨(hX.cell HM1.out.lt).trans (HM1.out.cell 0), (hX.cell HM1.out.lt).trans (HM1.out.cell 1), (hX.cell HM1.out.lt).trans (HM1.out.cell 2), (hX.cell HM1.out.lt).trans (HM1.out.cell 3), (hX.cell HM1.out.lt).trans (HM1.out.cell 4), (hX.cell HM1.out.lt).trans (HM1.out.cell 5), (hX.cell HM2.out.lt).trans (HM2.out.cell 0), (hX.cell HM2.out.lt).trans (HM2.out.cell 1), (hX.cell HM2.out.lt).trans (HM2.out.cell 2), (hX.cell HM2.out.lt).trans (HM2.out.cell 3), (hX.cell HM2.out.lt).trans (HM2.out.cell 4), (hX.cell HM2.out.lt).trans (HM2.out.cell 5)⟩
  have s1 := HS.out W (Below.refl _ _)
  go_upto_region 3 with fail
  go_cut [7] (fun v7 wx => ∃ g a1 c1 a2 c2, v7 = .slice (some ⟨g, 0, none⟩) 3 3 ∧ W.heap.size ≤ g ∧ Hid (Bk wx g 32 [.int .i64 ua.t, .complex .f64 ua.z.1 ua.z.2, .bool ua.r, .slice a1 ua.zs.length c1, .int .i64 ub.t, .complex .f64 ub.z.1 ub.z.2, .bool ub.r, .slice a2 ub.zs.length c2, .int .i64 1, .complex .f64 4635118810238550016 0, .bool false, .slice none 0 0]) ∧ Hid (Vr wx a1 ua) ∧ Hid (Vr wx a2 ub) ∧ Below W.heap.size W wx)
  case first =>
    have hnum := fun X => lnum_any 4635118810238550016 0 X
    have bD := (Below.refl W.heap.size W).drew
    have sD := HS.out W.drew bD
    go_region_held3 (fun X => X.cell? ⟨w.heap.size, 0, none⟩ = some (.int .i64 qa.t) ∧ X.cell? ⟨w.heap.size, 1, none⟩ = some (.int .i64 qa.z.x) ∧ X.cell? ⟨w.heap.size, 2, none⟩ = some (.int .i64 qa.z.y) ∧ X.cell? ⟨w.heap.size, 3, none⟩ = some (.bool qa.z.r) ∧ X.cell? ⟨w.heap.size, 4, none⟩ = some (.bool qa.b) ∧ X.cell? ⟨w.heap.size, 5, none⟩ = some (.slice x1 qa.l.length y1) ∧ X.cell? ⟨w.heap.size + 1, 0, none⟩ = some (.int .i64 qb.t) ∧ X.cell? ⟨w.heap.size + 1, 1, none⟩ = some (.int .i64 qb.z.x) ∧ X.cell? ⟨w.heap.size + 1, 2, none⟩ = some (.int .i64 qb.z.y) ∧ X.cell? ⟨w.heap.size + 1, 3, none⟩ = some (.bool qb.z.r) ∧ X.cell? ⟨w.heap.size + 1, 4, none⟩ = some (.bool qb.b) ∧ X.cell? ⟨w.heap.size + 1, 5, none⟩ = some (.slice x2 qb.l.length y2)) (first | (with_reducible exact s1) | (with_reducible exact sD) | (with_reducible exact s2) | (with_reducible exact s3) | (with_reducible exact s4) | (with_reducible exact s5 _)) (first
      | (go_at_call 11; (with_reducible refine Calls.mono (hV2 _ (K2.up b2)) ?_); rintro e w3 ⟨a2, c2, rfl, v2, hb3⟩; have b3 := Below.thn b2 hb3; have s3 := HS.out w3 b3; have v1' := v1.up hb3)
      | (go_at_call 11; (with_reducible refine Calls.mono (hV1 _ (K1.up bD)) ?_); rintro e w2 ⟨a1, c1, rfl, v1, hb2⟩; have b2 := Below.thn bD hb2; have s2 := HS.out w2 b2)
      | (go_at_call 18; (with_reducible refine Calls.mono (hnum _) ?_); rintro e w4 ⟨rfl, hb4⟩; have b4 := Below.thn b3 hb4; have s4 := HS.out w4 b4; have s5 := fun o => HS.out (w4.alloc o) (Below.thn b4 (below_alloc _ o)); have v1'' := v1'.up hb4; have v2' := v2.up hb4)
      | fail)
    all_goals
      go_wp2_with fail
      go_meet
      case rel => exact ⟨w4.heap.size, a1, c1, a2, c2, rfl, b4.size, Bk.new w4 32 #[.int .i64 ua.t, .complex .f64 ua.z.1 ua.z.2, .bool ua.r, .slice a1 ua.zs.length c1, .int .i64 ub.t, .complex .f64 ub.z.1 ub.z.2, .bool ub.r, .slice a2 ub.zs.length c2, .int .i64 1, .complex .f64 4635118810238550016 0, .bool false, .slice none 0 0], v1''.alloc _, v2'.alloc _, Below.thn b4 (below_alloc _ _)⟩
  case rest =>
    obtain ⟨g, a1, c1, a2, c2, rfl, hg, HG, HV1, HV2, hBc⟩ := hcut
    generalize wc = W1 at *
    clear s1
    by_cases hm : Int.tmod op 2 = 0
    · have hm1 : (Int.tmod op 2 == 0) = true := by rw [beq_iff_eq]; exact hm
      clear hm
      have hAp : ∀ X, Below W1.heap.size W1 X → Calls Try.prog 12 #[.int .i64 op, .slice (some ⟨g, 0, none⟩) 1 3] X fun e w' => e = .returned (.tuple #[vV none 0 (apV op [ua]), .int .i64 (apE op [ua])]) ∧ Below X.heap.size X w' :=
        fun X hX => apply_any op (some ⟨g, 0, none⟩) 3 [(a1, c1, ua)] X (Ar.pre1 (HG.out.up hX) (HV1.out.up hX)) (by simp)
      have hRA : ∀ X g2 a5 c5 a6 c6, Bk X g2 32 [.int .i64 ua.t, .complex .f64 ua.z.1 ua.z.2, .bool ua.r, .slice a5 ua.zs.length c5, .int .i64 ub.t, .complex .f64 ub.z.1 ub.z.2, .bool ub.r, .slice a6 ub.zs.length c6] → Vr X a5 ua → Vr X a6 ub → Calls Try.prog 13 #[.int .i64 op, .slice (some ⟨g2, 0, none⟩) 1 2] X fun e w' => e = .returned (.tuple #[.agg #[.int .i64 (apV op [ua]).t, .complex .f64 (apV op [ua]).z.1 (apV op [ua]).z.2, .bool (apV op [ua]).r, .slice none 0 0], .int .i64 (apE op [ua])]) ∧ Below X.heap.size X w' :=
        fun X g2 a5 c5 a6 c6 hX h5 _ => rapply_any op (some ⟨g2, 0, none⟩) 2 [(a5, c5, ua)] X (Ar.pre1 (r := []) hX h5) (by simp)
      have hWh := fun X => whole_ap op [ua] X
      simp only [vV_agg _ (apV_zs op [ua])] at hAp
      generalize apE op [ua] = E at *
      generalize apV op [ua] = u at *
      obtain ⟨ut, ⟨ux, uy⟩, ur, uz⟩ := u
      simp only at hAp hRA hWh
      have HRA : Hid (∀ X g2 a5 c5 a6 c6, Bk X g2 32 [.int .i64 ua.t, .complex .f64 ua.z.1 ua.z.2, .bool ua.r, .slice a5 ua.zs.length c5, .int .i64 ub.t, .complex .f64 ub.z.1 ub.z.2, .bool ub.r, .slice a6 ub.zs.length c6] → Vr X a5 ua → Vr X a6 ub → Calls Try.prog 13 #[.int .i64 op, .slice (some ⟨g2, 0, none⟩) 1 2] X fun e w' => e = .returned (.tuple #[.agg #[.int .i64 ut, .complex .f64 ux uy, .bool ur, .slice none 0 0], .int .i64 E]) ∧ Below X.heap.size X w') := hRA
      clear hRA
      have hcx := store_cx
      go_wp2_with fail
      refine (hAp _ (Below.refl _ _)).mono ?_
      rintro e w5 ⟨rfl, hb5⟩
      go_wp2_with fail
      refine (hAp _ (Below.thn hb5 (below_alloc w5 (.cells #[.int .i64 ut, .complex .f64 ux uy, .bool ur, .slice none 0 0] 32)))).mono ?_
      rintro e w6 ⟨rfl, hb6⟩
      have g1 := ((Bk.new w5 32 #[.int .i64 ut, .complex .f64 ux uy, .bool ur, .slice none 0 0]).up hb6).alloc (.cells #[.int .i64 ut, .complex .f64 ux uy, .bool ur, .slice none 0 0] 32)
      have g2 := Bk.new w6 32 #[.int .i64 ut, .complex .f64 ux uy, .bool ur, .slice none 0 0]
      have b6 := Below.thn hb5 (Below.thn (below_alloc w5 (.cells #[.int .i64 ut, .complex .f64 ux uy, .bool ur, .slice none 0 0] 32)) (Below.thn hb6 (below_alloc w6 (.cells #[.int .i64 ut, .complex .f64 ux uy, .bool ur, .slice none 0 0] 32))))
      have hne : w6.heap.size ≠ w5.heap.size := by have h9 := hb6.size; simp at h9; omega
      have hge : W1.heap.size ≤ w5.heap.size := hb5.size
      have sz6 : (w6.alloc (.cells #[.int .i64 ut, .complex .f64 ux uy, .bool ur, .slice none 0 0] 32)).heap.size = w6.heap.size + 1 := by simp
      obtain ⟨v9, w9, r9, o9, k9⟩ := own_cx (w6.alloc (.cells #[.int .i64 ut, .complex .f64 ux uy, .bool ur, .slice none 0 0] 32)) (w6.alloc (.cells #[.int .i64 ut, .complex .f64 ux uy, .bool ur, .slice none 0 0] 32)).heap.size (.slice none 0 0) [] (4617315517961601024, 0) ⟨rfl, .inl ⟨rfl, rfl⟩⟩ (Nat.le_refl _) (by simp)
      obtain ⟨p9, q9, e9, _, _⟩ := owns_slice o9
      simp only [List.nil_append, List.length_singleton] at e9
      subst e9
      have R9 : Hid (_ = _) := r9
      rw [sz6] at R9
      have G1 := (k9.own w5.heap.size _ _ _ (show Bk _ _ _ _ from g1) (by decide)).trans (show Bk _ _ _ _ from g1)
      have G2 : Bk w9 w6.heap.size 32 [.int .i64 ut, .complex .f64 ux uy, .bool ur, .slice none 0 0] := g2.up k9.low
      have c9 : w9.cell? ⟨w5.heap.size, 3, none⟩ = some (.slice none 0 0) := Bk.cell (show Bk w9 w5.heap.size 32 [.int .i64 ut, .complex .f64 ux uy, .bool ur, .slice none 0 0] from G1) 3
      have f9 : w9.frozen? ⟨w5.heap.size, 3, none⟩ = false := Bk.frz (show Bk w9 w5.heap.size 32 [.int .i64 ut, .complex .f64 ux uy, .bool ur, .slice none 0 0] from G1) 3
      have d9 : (w6.alloc (.cells #[.int .i64 ut, .complex .f64 ux uy, .bool ur, .slice none 0 0] 32)).cell? ⟨w5.heap.size, 3, none⟩ = some (.slice none 0 0) := g1.cell 3
      have hl9 := g1.lt
      have b9 : Below W1.heap.size W1 (w9.setCell ⟨w5.heap.size, 3, none⟩ (.slice p9 1 q9)) := Below.setCell (b6.trans (k9.low.mono b6.size)) hge _
      have G2' : Bk (w9.setCell ⟨w5.heap.size, 3, none⟩ (.slice p9 1 q9)) w6.heap.size 32 [.int .i64 ut, .complex .f64 ux uy, .bool ur, .slice none 0 0] := by
        show _ = _
        rw [Below.heap_setCell _ _ _ _ hne]
        exact G2
      have HG2 : Hid (Bk (w9.setCell ⟨w5.heap.size, 3, none⟩ (.slice p9 1 q9)) w6.heap.size 32 [.int .i64 ut, .complex .f64 ux uy, .bool ur, .slice none 0 0]) := G2'
      clear r9 o9 G1 G2 G2' hAp hb5 hb6 g2 b6 sz6
      go_wp2_with (at_builtin; refine wpList_append_run rfl (.tmp 43) (.tmp 44) 30 rfl rfl (.slice none 0 0) (.slice (some ⟨w6.heap.size + 1, 0, none⟩) 1 1) rfl rfl (.slice p9 1 q9) w9 (show _ = _ from R9) ?_)
      go_upto_region 11 with fail
      clear R9 k9 c9 f9 d9 g1 hl9
      generalize w9.setCell ⟨w5.heap.size, 3, none⟩ (.slice p9 1 q9) = Wx at *
      have bX := hBc.trans (b9.mono hBc.size)
      have HR := HG.out.up b9
      have V1x := HV1.out.up b9
      have V2x := HV2.out.up b9
      have K1x : Qr Wx x1 qa := ⟨(K1.up hBc).l.up b9, K1.n⟩
      have K2x : Qr Wx x2 qb := ⟨(K2.up hBc).l.up b9, K2.n⟩
      have hgl := HR.lt
      have HX : Hid (∀ X, Below Wx.heap.size Wx X → X.cell? ⟨w.heap.size, 0, none⟩ = some (.int .i64 qa.t) ∧ X.cell? ⟨w.heap.size, 1, none⟩ = some (.int .i64 qa.z.x) ∧ X.cell? ⟨w.heap.size, 2, none⟩ = some (.int .i64 qa.z.y) ∧ X.cell? ⟨w.heap.size, 3, none⟩ = some (.bool qa.z.r) ∧ X.cell? ⟨w.heap.size, 4, none⟩ = some (.bool qa.b) ∧ X.cell? ⟨w.heap.size, 5, none⟩ = some (.slice x1 qa.l.length y1) ∧ X.cell? ⟨w.heap.size + 1, 0, none⟩ = some (.int .i64 qb.t) ∧ X.cell? ⟨w.heap.size + 1, 1, none⟩ = some (.int .i64 qb.z.x) ∧ X.cell? ⟨w.heap.size + 1, 2, none⟩ = some (.int .i64 qb.z.y) ∧ X.cell? ⟨w.heap.size + 1, 3, none⟩ = some (.bool qb.z.r) ∧ X.cell? ⟨w.heap.size + 1, 4, none⟩ = some (.bool qb.b) ∧ X.cell? ⟨w.heap.size + 1, 5, none⟩ = some (.slice x2 qb.l.length y2) ∧ X.cell? ⟨g, 0, none⟩ = some (.int .i64 ua.t) ∧ X.cell? ⟨g, 1, none⟩ = some (.complex .f64 ua.z.1 ua.z.2) ∧ X.cell? ⟨g, 2, none⟩ = some (.bool ua.r) ∧ X.cell? ⟨g, 3, none⟩ = some (.slice a1 ua.zs.length c1) ∧ X.cell? ⟨g, 4, none⟩ = some (.int .i64 ub.t) ∧ X.cell? ⟨g, 5, none⟩ = some (.complex .f64 ub.z.1 ub.z.2) ∧ X.cell? ⟨g, 6, none⟩ = some (.bool ub.r) ∧ X.cell? ⟨g, 7, none⟩ = some (.slice a2 ub.zs.length c2) ∧ X.cell? ⟨g, 9, none⟩ = some (.complex .f64 4635118810238550016 0)) := fun X hX => by
        have h9 := HS.out X (bX.trans (hX.mono bX.size))
        obtain ⟨i0, i1, i2, i3, i4, i5, i6, i7, i8, i9, i10, i11⟩ := h9
        exact ⟨i0, i1, i2, i3, i4, i5, i6, i7, i8, i9, i10, i11, (hX.cell (p := ⟨g, 0, none⟩) hgl).trans (HR.cell 0), (hX.cell (p := ⟨g, 1, none⟩) hgl).trans (HR.cell 1), (hX.cell (p := ⟨g, 2, none⟩) hgl).trans (HR.cell 2), (hX.cell (p := ⟨g, 3, none⟩) hgl).trans (HR.cell 3), (hX.cell (p := ⟨g, 4, none⟩) hgl).trans (HR.cell 4), (hX.cell (p := ⟨g, 5, none⟩) hgl).trans (HR.cell 5), (hX.cell (p := ⟨g, 6, none⟩) hgl).trans (HR.cell 6), (hX.cell (p := ⟨g, 7, none⟩) hgl).trans (HR.cell 7), (hX.cell (p := ⟨g, 9, none⟩) hgl).trans (HR.cell 9)⟩
      have s1 := HX.out Wx (Below.refl _ _)
      have bD := (Below.refl Wx.heap.size Wx).drew
      have sD := HX.out Wx.drew bD
      have o77 : (FloatKind.f64.format.order 4635118810238550016 4635118810238550016 == some Ordering.eq) = true := by decide
      have o00 : (FloatKind.f64.format.order 0 0 == some Ordering.eq) = true := by decide
      have hk1 := fun a c X h1 h2 => kept_any ua a1 a c1 c X h1 h2
      have hk2 := fun a c X h1 h2 => kept_any ub a2 a c2 c X h1 h2
      simp only [vV] at hk1 hk2
      clear HR hgl HG HV1 HV2 K1 K2 HM1 HM2 b9
      first | (go_region_held3 (fun X => X.cell? ⟨w.heap.size, 0, none⟩ = some (.int .i64 qa.t) ∧ X.cell? ⟨w.heap.size, 1, none⟩ = some (.int .i64 qa.z.x) ∧ X.cell? ⟨w.heap.size, 2, none⟩ = some (.int .i64 qa.z.y) ∧ X.cell? ⟨w.heap.size, 3, none⟩ = some (.bool qa.z.r) ∧ X.cell? ⟨w.heap.size, 4, none⟩ = some (.bool qa.b) ∧ X.cell? ⟨w.heap.size, 5, none⟩ = some (.slice x1 qa.l.length y1) ∧ X.cell? ⟨w.heap.size + 1, 0, none⟩ = some (.int .i64 qb.t) ∧ X.cell? ⟨w.heap.size + 1, 1, none⟩ = some (.int .i64 qb.z.x) ∧ X.cell? ⟨w.heap.size + 1, 2, none⟩ = some (.int .i64 qb.z.y) ∧ X.cell? ⟨w.heap.size + 1, 3, none⟩ = some (.bool qb.z.r) ∧ X.cell? ⟨w.heap.size + 1, 4, none⟩ = some (.bool qb.b) ∧ X.cell? ⟨w.heap.size + 1, 5, none⟩ = some (.slice x2 qb.l.length y2) ∧ X.cell? ⟨g, 0, none⟩ = some (.int .i64 ua.t) ∧ X.cell? ⟨g, 1, none⟩ = some (.complex .f64 ua.z.1 ua.z.2) ∧ X.cell? ⟨g, 2, none⟩ = some (.bool ua.r) ∧ X.cell? ⟨g, 3, none⟩ = some (.slice a1 ua.zs.length c1) ∧ X.cell? ⟨g, 4, none⟩ = some (.int .i64 ub.t) ∧ X.cell? ⟨g, 5, none⟩ = some (.complex .f64 ub.z.1 ub.z.2) ∧ X.cell? ⟨g, 6, none⟩ = some (.bool ub.r) ∧ X.cell? ⟨g, 7, none⟩ = some (.slice a2 ub.zs.length c2) ∧ X.cell? ⟨g, 9, none⟩ = some (.complex .f64 4635118810238550016 0)) (first | (with_reducible exact s1) | (with_reducible exact sD) | (with_reducible exact sa) | (with_reducible exact sb) | (with_reducible exact sc) | (with_reducible exact sd)) (first
        | (go_at_call 11; (with_reducible refine Calls.mono (hV2 _ (K2x.up bb)) ?_); rintro e wc ⟨ac, cc, rfl, vc9, hbc⟩; have bc := Below.thn bb hbc; have sc := HX.out wc bc)
        | (go_at_call 20; (with_reducible refine Calls.mono (hk2 ac cc _ (V2x.up bc) vc9) ?_); rintro e wd ⟨rfl, hbd⟩; have bd := Below.thn bc hbd; have sd := HX.out wd bd)
        | (go_at_call 11; (with_reducible refine Calls.mono (hV1 _ (K1x.up bD)) ?_); rintro e wa ⟨aa, ca, rfl, va9, hba⟩; have ba := Below.thn bD hba; have sa := HX.out wa ba)
        | (go_at_call 20; (with_reducible refine Calls.mono (hk1 aa ca _ (V1x.up ba) va9) ?_); rintro e wb ⟨rfl, hbb⟩; have bb := Below.thn ba hbb; have sb := HX.out wb bb)
        | fail)) | fail
      all_goals
        clear s1 sD sa sb sc vc9 va9 V1x V2x hbd hbc hbb hba
        go_upto_region 13 with fail
        have K1y := K1x.up bd
        have K2y := K2x.up bd
        have G2y := HG2.out.up bd
        have HG2y : Hid (Bk wd w6.heap.size 32 [.int .i64 ut, .complex .f64 ux uy, .bool ur, .slice none 0 0]) := G2y
        have bY := bX.trans (bd.mono bX.size)
        have HY : Hid (∀ X, Below wd.heap.size wd X → X.cell? ⟨w.heap.size, 0, none⟩ = some (.int .i64 qa.t) ∧ X.cell? ⟨w.heap.size, 1, none⟩ = some (.int .i64 qa.z.x) ∧ X.cell? ⟨w.heap.size, 2, none⟩ = some (.int .i64 qa.z.y) ∧ X.cell? ⟨w.heap.size, 3, none⟩ = some (.bool qa.z.r) ∧ X.cell? ⟨w.heap.size, 4, none⟩ = some (.bool qa.b) ∧ X.cell? ⟨w.heap.size, 5, none⟩ = some (.slice x1 qa.l.length y1) ∧ X.cell? ⟨w.heap.size + 1, 0, none⟩ = some (.int .i64 qb.t) ∧ X.cell? ⟨w.heap.size + 1, 1, none⟩ = some (.int .i64 qb.z.x) ∧ X.cell? ⟨w.heap.size + 1, 2, none⟩ = some (.int .i64 qb.z.y) ∧ X.cell? ⟨w.heap.size + 1, 3, none⟩ = some (.bool qb.z.r) ∧ X.cell? ⟨w.heap.size + 1, 4, none⟩ = some (.bool qb.b) ∧ X.cell? ⟨w.heap.size + 1, 5, none⟩ = some (.slice x2 qb.l.length y2)) := fun X hX => HS.out X (bY.trans (hX.mono bY.size))
        clear sd K1x K2x G2y HG2 HX bD ba bb bc bd HS hk1 hk2 o77 o00
        generalize wd = Wy at *
        go_cut [14, 15] (fun v14 v15 wx => ∃ g9, v14 = .pointer (some ⟨g9, 0, none⟩) ∧ v15 = .int .i64 E ∧ Bk wx g9 32 [.int .i64 ut, .complex .f64 ux uy, .bool ur, .slice none 0 0] ∧ Below Wy.heap.size Wy wx)
        case first =>
          have s1 := HY.out Wy (Below.refl _ _)
          have bD := (Below.refl Wy.heap.size Wy).drew
          have sD := HY.out Wy.drew bD
          have bZ := (below_alloc Wy (.cells #[.int .i64 0, .complex .f64 0 0, .bool false, .slice none 0 0] 32)).drew
          have sZ := HY.out (World.drew (Wy.alloc (.cells #[.int .i64 0, .complex .f64 0 0, .bool false, .slice none 0 0] 32))) bZ
          have hgZ : Hid (Bk (World.drew (Wy.alloc (.cells #[.int .i64 0, .complex .f64 0 0, .bool false, .slice none 0 0] 32))) Wy.heap.size 32 [.int .i64 0, .complex .f64 0 0, .bool false, .slice none 0 0]) := (show Bk (World.drew (Wy.alloc (.cells #[.int .i64 0, .complex .f64 0 0, .bool false, .slice none 0 0] 32))) Wy.heap.size 32 [.int .i64 0, .complex .f64 0 0, .bool false, .slice none 0 0] from Bk.new Wy 32 #[.int .i64 0, .complex .f64 0 0, .bool false, .slice none 0 0])
          have hq1 : Hid (∀ (X : World) a5 c5 a6 c6, Bk (X.alloc (.cells #[.int .i64 ua.t, .complex .f64 ua.z.1 ua.z.2, .bool ua.r, .slice a5 ua.zs.length c5, .int .i64 ub.t, .complex .f64 ub.z.1 ub.z.2, .bool ub.r, .slice a6 ub.zs.length c6] 32)) X.heap.size 32 [.int .i64 ua.t, .complex .f64 ua.z.1 ua.z.2, .bool ua.r, .slice a5 ua.zs.length c5, .int .i64 ub.t, .complex .f64 ub.z.1 ub.z.2, .bool ub.r, .slice a6 ub.zs.length c6]) := fun X a5 c5 a6 c6 => Bk.new X 32 #[.int .i64 ua.t, .complex .f64 ua.z.1 ua.z.2, .bool ua.r, .slice a5 ua.zs.length c5, .int .i64 ub.t, .complex .f64 ub.z.1 ub.z.2, .bool ub.r, .slice a6 ub.zs.length c6]
          have hq2 : Hid (∀ (X : World) a5 c5 a6 c6, Bk ((X.alloc (.cells #[.int .i64 0, .complex .f64 0 0, .bool false, .slice none 0 0] 32)).alloc (.cells #[.int .i64 ua.t, .complex .f64 ua.z.1 ua.z.2, .bool ua.r, .slice a5 ua.zs.length c5, .int .i64 ub.t, .complex .f64 ub.z.1 ub.z.2, .bool ub.r, .slice a6 ub.zs.length c6] 32)) (X.heap.size + 1) 32 [.int .i64 ua.t, .complex .f64 ua.z.1 ua.z.2, .bool ua.r, .slice a5 ua.zs.length c5, .int .i64 ub.t, .complex .f64 ub.z.1 ub.z.2, .bool ub.r, .slice a6 ub.zs.length c6]) := fun X a5 c5 a6 c6 => by
            have := Bk.new (X.alloc (.cells #[.int .i64 0, .complex .f64 0 0, .bool false, .slice none 0 0] 32)) 32 #[.int .i64 ua.t, .complex .f64 ua.z.1 ua.z.2, .bool ua.r, .slice a5 ua.zs.length c5, .int .i64 ub.t, .complex .f64 ub.z.1 ub.z.2, .bool ub.r, .slice a6 ub.zs.length c6]
            rwa [show (X.alloc (.cells #[.int .i64 0, .complex .f64 0 0, .bool false, .slice none 0 0] 32)).heap.size = X.heap.size + 1 by simp] at this
          have hq3 : Hid (∀ (X : World) a5 c5 a6 c6, Bk ((X.alloc (.cells #[.int .i64 ua.t, .complex .f64 ua.z.1 ua.z.2, .bool ua.r, .slice a5 ua.zs.length c5, .int .i64 ub.t, .complex .f64 ub.z.1 ub.z.2, .bool ub.r, .slice a6 ub.zs.length c6] 32)).alloc (.cells #[.int .i64 0, .complex .f64 0 0, .bool false, .slice none 0 0] 32)) X.heap.size 32 [.int .i64 ua.t, .complex .f64 ua.z.1 ua.z.2, .bool ua.r, .slice a5 ua.zs.length c5, .int .i64 ub.t, .complex .f64 ub.z.1 ub.z.2, .bool ub.r, .slice a6 ub.zs.length c6]) := fun X a5 c5 a6 c6 => (Bk.new X 32 #[.int .i64 ua.t, .complex .f64 ua.z.1 ua.z.2, .bool ua.r, .slice a5 ua.zs.length c5, .int .i64 ub.t, .complex .f64 ub.z.1 ub.z.2, .bool ub.r, .slice a6 ub.zs.length c6]).alloc _
          have hz1 : Hid (∀ X : World, Bk (X.alloc (.cells #[.int .i64 0, .complex .f64 0 0, .bool false, .slice none 0 0] 32)) X.heap.size 32 [.int .i64 0, .complex .f64 0 0, .bool false, .slice none 0 0]) := fun X => Bk.new X 32 #[.int .i64 0, .complex .f64 0 0, .bool false, .slice none 0 0]
          have hz2 : Hid (∀ (X : World) a5 c5 a6 c6, Bk ((X.alloc (.cells #[.int .i64 0, .complex .f64 0 0, .bool false, .slice none 0 0] 32)).alloc (.cells #[.int .i64 ua.t, .complex .f64 ua.z.1 ua.z.2, .bool ua.r, .slice a5 ua.zs.length c5, .int .i64 ub.t, .complex .f64 ub.z.1 ub.z.2, .bool ub.r, .slice a6 ub.zs.length c6] 32)) X.heap.size 32 [.int .i64 0, .complex .f64 0 0, .bool false, .slice none 0 0]) := fun X a5 c5 a6 c6 => (Bk.new X 32 #[.int .i64 0, .complex .f64 0 0, .bool false, .slice none 0 0]).alloc _
          have hz3 : Hid (∀ (X : World) a5 c5 a6 c6, Bk ((X.alloc (.cells #[.int .i64 ua.t, .complex .f64 ua.z.1 ua.z.2, .bool ua.r, .slice a5 ua.zs.length c5, .int .i64 ub.t, .complex .f64 ub.z.1 ub.z.2, .bool ub.r, .slice a6 ub.zs.length c6] 32)).alloc (.cells #[.int .i64 0, .complex .f64 0 0, .bool false, .slice none 0 0] 32)) (X.heap.size + 1) 32 [.int .i64 0, .complex .f64 0 0, .bool false, .slice none 0 0]) := fun X a5 c5 a6 c6 => by
            have := Bk.new (X.alloc (.cells #[.int .i64 ua.t, .complex .f64 ua.z.1 ua.z.2, .bool ua.r, .slice a5 ua.zs.length c5, .int .i64 ub.t, .complex .f64 ub.z.1 ub.z.2, .bool ub.r, .slice a6 ub.zs.length c6] 32)) 32 #[.int .i64 0, .complex .f64 0 0, .bool false, .slice none 0 0]
            rwa [show (X.alloc (.cells #[.int .i64 ua.t, .complex .f64 ua.z.1 ua.z.2, .bool ua.r, .slice a5 ua.zs.length c5, .int .i64 ub.t, .complex .f64 ub.z.1 ub.z.2, .bool ub.r, .slice a6 ub.zs.length c6] 32)).heap.size = X.heap.size + 1 by simp] at this
          first | (go_region_held3 (fun X => X.cell? ⟨w.heap.size, 0, none⟩ = some (.int .i64 qa.t) ∧ X.cell? ⟨w.heap.size, 1, none⟩ = some (.int .i64 qa.z.x) ∧ X.cell? ⟨w.heap.size, 2, none⟩ = some (.int .i64 qa.z.y) ∧ X.cell? ⟨w.heap.size, 3, none⟩ = some (.bool qa.z.r) ∧ X.cell? ⟨w.heap.size, 4, none⟩ = some (.bool qa.b) ∧ X.cell? ⟨w.heap.size, 5, none⟩ = some (.slice x1 qa.l.length y1) ∧ X.cell? ⟨w.heap.size + 1, 0, none⟩ = some (.int .i64 qb.t) ∧ X.cell? ⟨w.heap.size + 1, 1, none⟩ = some (.int .i64 qb.z.x) ∧ X.cell? ⟨w.heap.size + 1, 2, none⟩ = some (.int .i64 qb.z.y) ∧ X.cell? ⟨w.heap.size + 1, 3, none⟩ = some (.bool qb.z.r) ∧ X.cell? ⟨w.heap.size + 1, 4, none⟩ = some (.bool qb.b) ∧ X.cell? ⟨w.heap.size + 1, 5, none⟩ = some (.slice x2 qb.l.length y2)) (first | (with_reducible exact s1) | (with_reducible exact sD) | (with_reducible exact sZ) | (with_reducible exact sA) | (with_reducible exact sB) | (with_reducible exact sC) | (with_reducible exact sA1 _) | (with_reducible exact sB1 _) | (with_reducible exact sB2 _ _) | (with_reducible exact sC1 _) | (with_reducible exact HY.out _ (below_alloc _ _)) | (refine HY.out _ ?_; repeat (first | (with_reducible exact bC) | refine Below.setCell ?_ (show Wy.heap.size ≤ Wy.heap.size from Nat.le_refl _) _ | refine Below.setCell ?_ (show Wy.heap.size ≤ wA.heap.size from bA.size) _ | refine Below.setCell ?_ (show Wy.heap.size ≤ wB.heap.size from bB.size) _ | refine Below.setCell ?_ (show Wy.heap.size ≤ wB.heap.size + 1 from Nat.le_succ_of_le bB.size) _ | refine Below.thn ?_ (below_alloc _ _)))) (first
            | (go_at_call 13; (with_reducible refine Calls.mono (HRA.out _ _ a5 c5 a6 c6 (hq1.out wB a5 c5 a6 c6) (v5.alloc _) (v6.alloc _)) ?_); rintro e wC ⟨rfl, hbC⟩; have bC := Below.thn bB (Below.thn (below_alloc wB _) hbC); have sC := HY.out wC bC; have sC1 := fun o => HY.out (wC.alloc o) (Below.thn bC (below_alloc _ o)); first | (have hg := (hg.alloc (.cells #[.int .i64 ua.t, .complex .f64 ua.z.1 ua.z.2, .bool ua.r, .slice a5 ua.zs.length c5, .int .i64 ub.t, .complex .f64 ub.z.1 ub.z.2, .bool ub.r, .slice a6 ub.zs.length c6] 32)).up hbC; have hc := Bk.c4 hg) | skip)
            | (go_at_call 13; (with_reducible refine Calls.mono (HRA.out _ _ a5 c5 a6 c6 (hq2.out wB a5 c5 a6 c6) ((v5.alloc _).alloc _) ((v6.alloc _).alloc _)) ?_); rintro e wC ⟨rfl, hbC⟩; have bC := Below.thn bB (Below.thn (Below.thn (below_alloc wB (.cells #[.int .i64 0, .complex .f64 0 0, .bool false, .slice none 0 0] 32)) (below_alloc _ _)) hbC); have sC := HY.out wC bC; have hg := (hz2.out wB a5 c5 a6 c6).up hbC; have hc := Bk.c4 hg)
            | (go_at_call 13; (with_reducible refine Calls.mono (HRA.out _ _ a5 c5 a6 c6 (hq3.out wB a5 c5 a6 c6) ((v5.alloc _).alloc _) ((v6.alloc _).alloc _)) ?_); rintro e wC ⟨rfl, hbC⟩; have bC := Below.thn bB (Below.thn (Below.thn (below_alloc wB (.cells #[.int .i64 ua.t, .complex .f64 ua.z.1 ua.z.2, .bool ua.r, .slice a5 ua.zs.length c5, .int .i64 ub.t, .complex .f64 ub.z.1 ub.z.2, .bool ub.r, .slice a6 ub.zs.length c6] 32)) (below_alloc _ _)) hbC); have sC := HY.out wC bC; have hg := (hz3.out wB a5 c5 a6 c6).up hbC; have hc := Bk.c4 hg)
            | (go_at_call 11; (with_reducible refine Calls.mono (hV2 _ (K2y.up bA)) ?_); rintro e wB ⟨a6, c6, rfl, v6, hbB⟩; have bB := Below.thn bA hbB; have sB := HY.out wB bB; have sB1 := fun o => HY.out (wB.alloc o) (Below.thn bB (below_alloc _ o)); have sB2 := fun o o2 => HY.out ((wB.alloc o).alloc o2) (Below.thn (Below.thn bB (below_alloc _ o)) (below_alloc _ o2)); have v5 := v5.up hbB; first | (have hg := hg.up hbB) | skip)
            | (go_at_call 11; (with_reducible refine Calls.mono (hV2 _ (K2y.up (Below.thn bA (below_alloc wA (.cells #[.int .i64 0, .complex .f64 0 0, .bool false, .slice none 0 0] 32))))) ?_); rintro e wB ⟨a6, c6, rfl, v6, hbB⟩; have bB := Below.thn (Below.thn bA (below_alloc wA (.cells #[.int .i64 0, .complex .f64 0 0, .bool false, .slice none 0 0] 32))) hbB; have sB := HY.out wB bB; have sB1 := fun o => HY.out (wB.alloc o) (Below.thn bB (below_alloc _ o)); have sB2 := fun o o2 => HY.out ((wB.alloc o).alloc o2) (Below.thn (Below.thn bB (below_alloc _ o)) (below_alloc _ o2)); have v5 := (v5.alloc (.cells #[.int .i64 0, .complex .f64 0 0, .bool false, .slice none 0 0] 32)).up hbB; have hg := (hz1.out wA).up hbB)
            | (go_at_call 11; (with_reducible refine Calls.mono (hV1 _ (K1y.up bD)) ?_); rintro e wA ⟨a5, c5, rfl, v5, hbA⟩; have bA := Below.thn bD hbA; have sA := HY.out wA bA; have sA1 := fun o => HY.out (wA.alloc o) (Below.thn bA (below_alloc _ o)))
            | (go_at_call 11; (with_reducible refine Calls.mono (hV1 _ (K1y.up bZ)) ?_); rintro e wA ⟨a5, c5, rfl, v5, hbA⟩; have bA := Below.thn bZ hbA; have sA := HY.out wA bA; have sA1 := fun o => HY.out (wA.alloc o) (Below.thn bA (below_alloc _ o)); have hg := hgZ.out.up hbA)
            | fail)) | fail
          all_goals
            go_wp2_with fail
            go_meet
            case rel =>
              refine ⟨_, rfl, rfl, ?_, ?_⟩
              · first
                  | exact (((hg.set 0 _).set 1 _).set 2 _).set 3 _
                  | exact Bk.new wC 32 #[.int .i64 ut, .complex .f64 ux uy, .bool ur, .slice none 0 0]
              · first
                  | (have hg2 := hg
                     refine Below.setCell (Below.setCell (Below.setCell (Below.setCell bC ?_ _) ?_ _) ?_ _) ?_ _
                     all_goals first | exact Nat.le_refl Wy.heap.size | exact bA.size | exact bB.size | exact Nat.le_succ_of_le bB.size)
                  | exact Below.thn bC (below_alloc _ _)
        case rest =>
          obtain ⟨g9, rfl, rfl, hG9, hBy⟩ := hcut
          have G2 := HG2y.out.up hBy
          have e10 : wc.cell? ⟨w6.heap.size, 0, none⟩ = some (.int .i64 ut) := G2.cell 0
          have e11 : wc.cell? ⟨w6.heap.size, 1, none⟩ = some (.complex .f64 ux uy) := G2.cell 1
          have e12 : wc.cell? ⟨w6.heap.size, 2, none⟩ = some (.bool ur) := G2.cell 2
          have e13 : wc.cell? ⟨w6.heap.size, 3, none⟩ = some (.slice none 0 0) := G2.cell 3
          have e20 : wc.cell? ⟨g9, 0, none⟩ = some (.int .i64 ut) := hG9.cell 0
          have e21 : wc.cell? ⟨g9, 1, none⟩ = some (.complex .f64 ux uy) := hG9.cell 1
          have e22 : wc.cell? ⟨g9, 2, none⟩ = some (.bool ur) := hG9.cell 2
          have e23 : wc.cell? ⟨g9, 3, none⟩ = some (.slice none 0 0) := hG9.cell 3
          have bR := bW.trans ((bY.trans (hBy.mono bY.size)).mono bW.size)
          clear HRA hV1 hV2 HY K1y K2y HG2y G2 hG9
          go_wp2_with (go_at_call 14; (with_reducible refine Calls.mono (hWh _) ?_); rintro e w7 ⟨rfl, hb7⟩)
          go_ret
          exact ⟨rfl, Below.thn bR hb7⟩
    · have hm1 : (Int.tmod op 2 == 0) = false := by rw [beq_eq_false_iff_ne]; exact hm
      clear hm
      have hAp : ∀ X, Below W1.heap.size W1 X → Calls Try.prog 12 #[.int .i64 op, .slice (some ⟨g, 0, none⟩) 2 3] X fun e w' => e = .returned (.tuple #[vV none 0 (apV op [ua, ub]), .int .i64 (apE op [ua, ub])]) ∧ Below X.heap.size X w' :=
        fun X hX => apply_any op (some ⟨g, 0, none⟩) 3 [(a1, c1, ua), (a2, c2, ub)] X (Ar.pre2 (HG.out.up hX) (HV1.out.up hX) (HV2.out.up hX)) (by simp)
      have hRA : ∀ X g2 a5 c5 a6 c6, Bk X g2 32 [.int .i64 ua.t, .complex .f64 ua.z.1 ua.z.2, .bool ua.r, .slice a5 ua.zs.length c5, .int .i64 ub.t, .complex .f64 ub.z.1 ub.z.2, .bool ub.r, .slice a6 ub.zs.length c6] → Vr X a5 ua → Vr X a6 ub → Calls Try.prog 13 #[.int .i64 op, .slice (some ⟨g2, 0, none⟩) 2 2] X fun e w' => e = .returned (.tuple #[.agg #[.int .i64 (apV op [ua, ub]).t, .complex .f64 (apV op [ua, ub]).z.1 (apV op [ua, ub]).z.2, .bool (apV op [ua, ub]).r, .slice none 0 0], .int .i64 (apE op [ua, ub])]) ∧ Below X.heap.size X w' :=
        fun X g2 a5 c5 a6 c6 hX h5 h6 => rapply_any op (some ⟨g2, 0, none⟩) 2 [(a5, c5, ua), (a6, c6, ub)] X (Ar.pre2 (r := []) hX h5 h6) (by simp)
      have hWh := fun X => whole_ap op [ua, ub] X
      simp only [vV_agg _ (apV_zs op [ua, ub])] at hAp
      generalize apE op [ua, ub] = E at *
      generalize apV op [ua, ub] = u at *
      obtain ⟨ut, ⟨ux, uy⟩, ur, uz⟩ := u
      simp only at hAp hRA hWh
      have HRA : Hid (∀ X g2 a5 c5 a6 c6, Bk X g2 32 [.int .i64 ua.t, .complex .f64 ua.z.1 ua.z.2, .bool ua.r, .slice a5 ua.zs.length c5, .int .i64 ub.t, .complex .f64 ub.z.1 ub.z.2, .bool ub.r, .slice a6 ub.zs.length c6] → Vr X a5 ua → Vr X a6 ub → Calls Try.prog 13 #[.int .i64 op, .slice (some ⟨g2, 0, none⟩) 2 2] X fun e w' => e = .returned (.tuple #[.agg #[.int .i64 ut, .complex .f64 ux uy, .bool ur, .slice none 0 0], .int .i64 E]) ∧ Below X.heap.size X w') := hRA
      clear hRA
      have hcx := store_cx
      go_wp2_with fail
      refine (hAp _ (Below.refl _ _)).mono ?_
      rintro e w5 ⟨rfl, hb5⟩
      go_wp2_with fail
      refine (hAp _ (Below.thn hb5 (below_alloc w5 (.cells #[.int .i64 ut, .complex .f64 ux uy, .bool ur, .slice none 0 0] 32)))).mono ?_
      rintro e w6 ⟨rfl, hb6⟩
      have g1 := ((Bk.new w5 32 #[.int .i64 ut, .complex .f64 ux uy, .bool ur, .slice none 0 0]).up hb6).alloc (.cells #[.int .i64 ut, .complex .f64 ux uy, .bool ur, .slice none 0 0] 32)
      have g2 := Bk.new w6 32 #[.int .i64 ut, .complex .f64 ux uy, .bool ur, .slice none 0 0]
      have b6 := Below.thn hb5 (Below.thn (below_alloc w5 (.cells #[.int .i64 ut, .complex .f64 ux uy, .bool ur, .slice none 0 0] 32)) (Below.thn hb6 (below_alloc w6 (.cells #[.int .i64 ut, .complex .f64 ux uy, .bool ur, .slice none 0 0] 32))))
      have hne : w6.heap.size ≠ w5.heap.size := by have h9 := hb6.size; simp at h9; omega
      have hge : W1.heap.size ≤ w5.heap.size := hb5.size
      have sz6 : (w6.alloc (.cells #[.int .i64 ut, .complex .f64 ux uy, .bool ur, .slice none 0 0] 32)).heap.size = w6.heap.size + 1 := by simp
      obtain ⟨v9, w9, r9, o9, k9⟩ := own_cx (w6.alloc (.cells #[.int .i64 ut, .complex .f64 ux uy, .bool ur, .slice none 0 0] 32)) (w6.alloc (.cells #[.int .i64 ut, .complex .f64 ux uy, .bool ur, .slice none 0 0] 32)).heap.size (.slice none 0 0) [] (4617315517961601024, 0) ⟨rfl, .inl ⟨rfl, rfl⟩⟩ (Nat.le_refl _) (by simp)
      obtain ⟨p9, q9, e9, _, _⟩ := owns_slice o9
      simp only [List.nil_append, List.length_singleton] at e9
      subst e9
      have R9 : Hid (_ = _) := r9
      rw [sz6] at R9
      have G1 := (k9.own w5.heap.size _ _ _ (show Bk _ _ _ _ from g1) (by decide)).trans (show Bk _ _ _ _ from g1)
      have G2 : Bk w9 w6.heap.size 32 [.int .i64 ut, .complex .f64 ux uy, .bool ur, .slice none 0 0] := g2.up k9.low
      have c9 : w9.cell? ⟨w5.heap.size, 3, none⟩ = some (.slice none 0 0) := Bk.cell (show Bk w9 w5.heap.size 32 [.int .i64 ut, .complex .f64 ux uy, .bool ur, .slice none 0 0] from G1) 3
      have f9 : w9.frozen? ⟨w5.heap.size, 3, none⟩ = false := Bk.frz (show Bk w9 w5.heap.size 32 [.int .i64 ut, .complex .f64 ux uy, .bool ur, .slice none 0 0] from G1) 3
      have d9 : (w6.alloc (.cells #[.int .i64 ut, .complex .f64 ux uy, .bool ur, .slice none 0 0] 32)).cell? ⟨w5.heap.size, 3, none⟩ = some (.slice none 0 0) := g1.cell 3
      have hl9 := g1.lt
      have b9 : Below W1.heap.size W1 (w9.setCell ⟨w5.heap.size, 3, none⟩ (.slice p9 1 q9)) := Below.setCell (b6.trans (k9.low.mono b6.size)) hge _
      have G2' : Bk (w9.setCell ⟨w5.heap.size, 3, none⟩ (.slice p9 1 q9)) w6.heap.size 32 [.int .i64 ut, .complex .f64 ux uy, .bool ur, .slice none 0 0] := by
        show _ = _
        rw [Below.heap_setCell _ _ _ _ hne]
        exact G2
      have HG2 : Hid (Bk (w9.setCell ⟨w5.heap.size, 3, none⟩ (.slice p9 1 q9)) w6.heap.size 32 [.int .i64 ut, .complex .f64 ux uy, .bool ur, .slice none 0 0]) := G2'
      clear r9 o9 G1 G2 G2' hAp hb5 hb6 g2 b6 sz6
      go_wp2_with (at_builtin; refine wpList_append_run rfl (.tmp 43) (.tmp 44) 30 rfl rfl (.slice none 0 0) (.slice (some ⟨w6.heap.size + 1, 0, none⟩) 1 1) rfl rfl (.slice p9 1 q9) w9 (show _ = _ from R9) ?_)
      go_upto_region 11 with fail
      clear R9 k9 c9 f9 d9 g1 hl9
      generalize w9.setCell ⟨w5.heap.size, 3, none⟩ (.slice p9 1 q9) = Wx at *
      have bX := hBc.trans (b9.mono hBc.size)
      have HR := HG.out.up b9
      have V1x := HV1.out.up b9
      have V2x := HV2.out.up b9
      have K1x : Qr Wx x1 qa := ⟨(K1.up hBc).l.up b9, K1.n⟩
      have K2x : Qr Wx x2 qb := ⟨(K2.up hBc).l.up b9, K2.n⟩
      have hgl := HR.lt
      have HX : Hid (∀ X, Below Wx.heap.size Wx X → X.cell? ⟨w.heap.size, 0, none⟩ = some (.int .i64 qa.t) ∧ X.cell? ⟨w.heap.size, 1, none⟩ = some (.int .i64 qa.z.x) ∧ X.cell? ⟨w.heap.size, 2, none⟩ = some (.int .i64 qa.z.y) ∧ X.cell? ⟨w.heap.size, 3, none⟩ = some (.bool qa.z.r) ∧ X.cell? ⟨w.heap.size, 4, none⟩ = some (.bool qa.b) ∧ X.cell? ⟨w.heap.size, 5, none⟩ = some (.slice x1 qa.l.length y1) ∧ X.cell? ⟨w.heap.size + 1, 0, none⟩ = some (.int .i64 qb.t) ∧ X.cell? ⟨w.heap.size + 1, 1, none⟩ = some (.int .i64 qb.z.x) ∧ X.cell? ⟨w.heap.size + 1, 2, none⟩ = some (.int .i64 qb.z.y) ∧ X.cell? ⟨w.heap.size + 1, 3, none⟩ = some (.bool qb.z.r) ∧ X.cell? ⟨w.heap.size + 1, 4, none⟩ = some (.bool qb.b) ∧ X.cell? ⟨w.heap.size + 1, 5, none⟩ = some (.slice x2 qb.l.length y2) ∧ X.cell? ⟨g, 0, none⟩ = some (.int .i64 ua.t) ∧ X.cell? ⟨g, 1, none⟩ = some (.complex .f64 ua.z.1 ua.z.2) ∧ X.cell? ⟨g, 2, none⟩ = some (.bool ua.r) ∧ X.cell? ⟨g, 3, none⟩ = some (.slice a1 ua.zs.length c1) ∧ X.cell? ⟨g, 4, none⟩ = some (.int .i64 ub.t) ∧ X.cell? ⟨g, 5, none⟩ = some (.complex .f64 ub.z.1 ub.z.2) ∧ X.cell? ⟨g, 6, none⟩ = some (.bool ub.r) ∧ X.cell? ⟨g, 7, none⟩ = some (.slice a2 ub.zs.length c2) ∧ X.cell? ⟨g, 9, none⟩ = some (.complex .f64 4635118810238550016 0)) := fun X hX => by
        have h9 := HS.out X (bX.trans (hX.mono bX.size))
        obtain ⟨i0, i1, i2, i3, i4, i5, i6, i7, i8, i9, i10, i11⟩ := h9
        exact ⟨i0, i1, i2, i3, i4, i5, i6, i7, i8, i9, i10, i11, (hX.cell (p := ⟨g, 0, none⟩) hgl).trans (HR.cell 0), (hX.cell (p := ⟨g, 1, none⟩) hgl).trans (HR.cell 1), (hX.cell (p := ⟨g, 2, none⟩) hgl).trans (HR.cell 2), (hX.cell (p := ⟨g, 3, none⟩) hgl).trans (HR.cell 3), (hX.cell (p := ⟨g, 4, none⟩) hgl).trans (HR.cell 4), (hX.cell (p := ⟨g, 5, none⟩) hgl).trans (HR.cell 5), (hX.cell (p := ⟨g, 6, none⟩) hgl).trans (HR.cell 6), (hX.cell (p := ⟨g, 7, none⟩) hgl).trans (HR.cell 7), (hX.cell (p := ⟨g, 9, none⟩) hgl).trans (HR.cell 9)⟩
      have s1 := HX.out Wx (Below.refl _ _)
      have bD := (Below.refl Wx.heap.size Wx).drew
      have sD := HX.out Wx.drew bD
      have o77 : (FloatKind.f64.format.order 4635118810238550016 4635118810238550016 == some Ordering.eq) = true := by decide
      have o00 : (FloatKind.f64.format.order 0 0 == some Ordering.eq) = true := by decide
      have hk1 := fun a c X h1 h2 => kept_any ua a1 a c1 c X h1 h2
      have hk2 := fun a c X h1 h2 => kept_any ub a2 a c2 c X h1 h2
      simp only [vV] at hk1 hk2
      clear HR hgl HG HV1 HV2 K1 K2 HM1 HM2 b9
      first | (go_region_held3 (fun X => X.cell? ⟨w.heap.size, 0, none⟩ = some (.int .i64 qa.t) ∧ X.cell? ⟨w.heap.size, 1, none⟩ = some (.int .i64 qa.z.x) ∧ X.cell? ⟨w.heap.size, 2, none⟩ = some (.int .i64 qa.z.y) ∧ X.cell? ⟨w.heap.size, 3, none⟩ = some (.bool qa.z.r) ∧ X.cell? ⟨w.heap.size, 4, none⟩ = some (.bool qa.b) ∧ X.cell? ⟨w.heap.size, 5, none⟩ = some (.slice x1 qa.l.length y1) ∧ X.cell? ⟨w.heap.size + 1, 0, none⟩ = some (.int .i64 qb.t) ∧ X.cell? ⟨w.heap.size + 1, 1, none⟩ = some (.int .i64 qb.z.x) ∧ X.cell? ⟨w.heap.size + 1, 2, none⟩ = some (.int .i64 qb.z.y) ∧ X.cell? ⟨w.heap.size + 1, 3, none⟩ = some (.bool qb.z.r) ∧ X.cell? ⟨w.heap.size + 1, 4, none⟩ = some (.bool qb.b) ∧ X.cell? ⟨w.heap.size + 1, 5, none⟩ = some (.slice x2 qb.l.length y2) ∧ X.cell? ⟨g, 0, none⟩ = some (.int .i64 ua.t) ∧ X.cell? ⟨g, 1, none⟩ = some (.complex .f64 ua.z.1 ua.z.2) ∧ X.cell? ⟨g, 2, none⟩ = some (.bool ua.r) ∧ X.cell? ⟨g, 3, none⟩ = some (.slice a1 ua.zs.length c1) ∧ X.cell? ⟨g, 4, none⟩ = some (.int .i64 ub.t) ∧ X.cell? ⟨g, 5, none⟩ = some (.complex .f64 ub.z.1 ub.z.2) ∧ X.cell? ⟨g, 6, none⟩ = some (.bool ub.r) ∧ X.cell? ⟨g, 7, none⟩ = some (.slice a2 ub.zs.length c2) ∧ X.cell? ⟨g, 9, none⟩ = some (.complex .f64 4635118810238550016 0)) (first | (with_reducible exact s1) | (with_reducible exact sD) | (with_reducible exact sa) | (with_reducible exact sb) | (with_reducible exact sc) | (with_reducible exact sd)) (first
        | (go_at_call 11; (with_reducible refine Calls.mono (hV2 _ (K2x.up bb)) ?_); rintro e wc ⟨ac, cc, rfl, vc9, hbc⟩; have bc := Below.thn bb hbc; have sc := HX.out wc bc)
        | (go_at_call 20; (with_reducible refine Calls.mono (hk2 ac cc _ (V2x.up bc) vc9) ?_); rintro e wd ⟨rfl, hbd⟩; have bd := Below.thn bc hbd; have sd := HX.out wd bd)
        | (go_at_call 11; (with_reducible refine Calls.mono (hV1 _ (K1x.up bD)) ?_); rintro e wa ⟨aa, ca, rfl, va9, hba⟩; have ba := Below.thn bD hba; have sa := HX.out wa ba)
        | (go_at_call 20; (with_reducible refine Calls.mono (hk1 aa ca _ (V1x.up ba) va9) ?_); rintro e wb ⟨rfl, hbb⟩; have bb := Below.thn ba hbb; have sb := HX.out wb bb)
        | fail)) | fail
      all_goals
        clear s1 sD sa sb sc vc9 va9 V1x V2x hbd hbc hbb hba
        go_upto_region 13 with fail
        have K1y := K1x.up bd
        have K2y := K2x.up bd
        have G2y := HG2.out.up bd
        have HG2y : Hid (Bk wd w6.heap.size 32 [.int .i64 ut, .complex .f64 ux uy, .bool ur, .slice none 0 0]) := G2y
        have bY := bX.trans (bd.mono bX.size)
        have HY : Hid (∀ X, Below wd.heap.size wd X → X.cell? ⟨w.heap.size, 0, none⟩ = some (.int .i64 qa.t) ∧ X.cell? ⟨w.heap.size, 1, none⟩ = some (.int .i64 qa.z.x) ∧ X.cell? ⟨w.heap.size, 2, none⟩ = some (.int .i64 qa.z.y) ∧ X.cell? ⟨w.heap.size, 3, none⟩ = some (.bool qa.z.r) ∧ X.cell? ⟨w.heap.size, 4, none⟩ = some (.bool qa.b) ∧ X.cell? ⟨w.heap.size, 5, none⟩ = some (.slice x1 qa.l.length y1) ∧ X.cell? ⟨w.heap.size + 1, 0, none⟩ = some (.int .i64 qb.t) ∧ X.cell? ⟨w.heap.size + 1, 1, none⟩ = some (.int .i64 qb.z.x) ∧ X.cell? ⟨w.heap.size + 1, 2, none⟩ = some (.int .i64 qb.z.y) ∧ X.cell? ⟨w.heap.size + 1, 3, none⟩ = some (.bool qb.z.r) ∧ X.cell? ⟨w.heap.size + 1, 4, none⟩ = some (.bool qb.b) ∧ X.cell? ⟨w.heap.size + 1, 5, none⟩ = some (.slice x2 qb.l.length y2)) := fun X hX => HS.out X (bY.trans (hX.mono bY.size))
        clear sd K1x K2x G2y HG2 HX bD ba bb bc bd HS hk1 hk2 o77 o00
        generalize wd = Wy at *
        go_cut [14, 15] (fun v14 v15 wx => ∃ g9, v14 = .pointer (some ⟨g9, 0, none⟩) ∧ v15 = .int .i64 E ∧ Bk wx g9 32 [.int .i64 ut, .complex .f64 ux uy, .bool ur, .slice none 0 0] ∧ Below Wy.heap.size Wy wx)
        case first =>
          have s1 := HY.out Wy (Below.refl _ _)
          have bD := (Below.refl Wy.heap.size Wy).drew
          have sD := HY.out Wy.drew bD
          have bZ := (below_alloc Wy (.cells #[.int .i64 0, .complex .f64 0 0, .bool false, .slice none 0 0] 32)).drew
          have sZ := HY.out (World.drew (Wy.alloc (.cells #[.int .i64 0, .complex .f64 0 0, .bool false, .slice none 0 0] 32))) bZ
          have hgZ : Hid (Bk (World.drew (Wy.alloc (.cells #[.int .i64 0, .complex .f64 0 0, .bool false, .slice none 0 0] 32))) Wy.heap.size 32 [.int .i64 0, .complex .f64 0 0, .bool false, .slice none 0 0]) := (show Bk (World.drew (Wy.alloc (.cells #[.int .i64 0, .complex .f64 0 0, .bool false, .slice none 0 0] 32))) Wy.heap.size 32 [.int .i64 0, .complex .f64 0 0, .bool false, .slice none 0 0] from Bk.new Wy 32 #[.int .i64 0, .complex .f64 0 0, .bool false, .slice none 0 0])
          have hq1 : Hid (∀ (X : World) a5 c5 a6 c6, Bk (X.alloc (.cells #[.int .i64 ua.t, .complex .f64 ua.z.1 ua.z.2, .bool ua.r, .slice a5 ua.zs.length c5, .int .i64 ub.t, .complex .f64 ub.z.1 ub.z.2, .bool ub.r, .slice a6 ub.zs.length c6] 32)) X.heap.size 32 [.int .i64 ua.t, .complex .f64 ua.z.1 ua.z.2, .bool ua.r, .slice a5 ua.zs.length c5, .int .i64 ub.t, .complex .f64 ub.z.1 ub.z.2, .bool ub.r, .slice a6 ub.zs.length c6]) := fun X a5 c5 a6 c6 => Bk.new X 32 #[.int .i64 ua.t, .complex .f64 ua.z.1 ua.z.2, .bool ua.r, .slice a5 ua.zs.length c5, .int .i64 ub.t, .complex .f64 ub.z.1 ub.z.2, .bool ub.r, .slice a6 ub.zs.length c6]
          have hq2 : Hid (∀ (X : World) a5 c5 a6 c6, Bk ((X.alloc (.cells #[.int .i64 0, .complex .f64 0 0, .bool false, .slice none 0 0] 32)).alloc (.cells #[.int .i64 ua.t, .complex .f64 ua.z.1 ua.z.2, .bool ua.r, .slice a5 ua.zs.length c5, .int .i64 ub.t, .complex .f64 ub.z.1 ub.z.2, .bool ub.r, .slice a6 ub.zs.length c6] 32)) (X.heap.size + 1) 32 [.int .i64 ua.t, .complex .f64 ua.z.1 ua.z.2, .bool ua.r, .slice a5 ua.zs.length c5, .int .i64 ub.t, .complex .f64 ub.z.1 ub.z.2, .bool ub.r, .slice a6 ub.zs.length c6]) := fun X a5 c5 a6 c6 => by
            have := Bk.new (X.alloc (.cells #[.int .i64 0, .complex .f64 0 0, .bool false, .slice none 0 0] 32)) 32 #[.int .i64 ua.t, .complex .f64 ua.z.1 ua.z.2, .bool ua.r, .slice a5 ua.zs.length c5, .int .i64 ub.t, .complex .f64 ub.z.1 ub.z.2, .bool ub.r, .slice a6 ub.zs.length c6]
            rwa [show (X.alloc (.cells #[.int .i64 0, .complex .f64 0 0, .bool false, .slice none 0 0] 32)).heap.size = X.heap.size + 1 by simp] at this
          have hq3 : Hid (∀ (X : World) a5 c5 a6 c6, Bk ((X.alloc (.cells #[.int .i64 ua.t, .complex .f64 ua.z.1 ua.z.2, .bool ua.r, .slice a5 ua.zs.length c5, .int .i64 ub.t, .complex .f64 ub.z.1 ub.z.2, .bool ub.r, .slice a6 ub.zs.length c6] 32)).alloc (.cells #[.int .i64 0, .complex .f64 0 0, .bool false, .slice none 0 0] 32)) X.heap.size 32 [.int .i64 ua.t, .complex .f64 ua.z.1 ua.z.2, .bool ua.r, .slice a5 ua.zs.length c5, .int .i64 ub.t, .complex .f64 ub.z.1 ub.z.2, .bool ub.r, .slice a6 ub.zs.length c6]) := fun X a5 c5 a6 c6 => (Bk.new X 32 #[.int .i64 ua.t, .complex .f64 ua.z.1 ua.z.2, .bool ua.r, .slice a5 ua.zs.length c5, .int .i64 ub.t, .complex .f64 ub.z.1 ub.z.2, .bool ub.r, .slice a6 ub.zs.length c6]).alloc _
          have hz1 : Hid (∀ X : World, Bk (X.alloc (.cells #[.int .i64 0, .complex .f64 0 0, .bool false, .slice none 0 0] 32)) X.heap.size 32 [.int .i64 0, .complex .f64 0 0, .bool false, .slice none 0 0]) := fun X => Bk.new X 32 #[.int .i64 0, .complex .f64 0 0, .bool false, .slice none 0 0]
          have hz2 : Hid (∀ (X : World) a5 c5 a6 c6, Bk ((X.alloc (.cells #[.int .i64 0, .complex .f64 0 0, .bool false, .slice none 0 0] 32)).alloc (.cells #[.int .i64 ua.t, .complex .f64 ua.z.1 ua.z.2, .bool ua.r, .slice a5 ua.zs.length c5, .int .i64 ub.t, .complex .f64 ub.z.1 ub.z.2, .bool ub.r, .slice a6 ub.zs.length c6] 32)) X.heap.size 32 [.int .i64 0, .complex .f64 0 0, .bool false, .slice none 0 0]) := fun X a5 c5 a6 c6 => (Bk.new X 32 #[.int .i64 0, .complex .f64 0 0, .bool false, .slice none 0 0]).alloc _
          have hz3 : Hid (∀ (X : World) a5 c5 a6 c6, Bk ((X.alloc (.cells #[.int .i64 ua.t, .complex .f64 ua.z.1 ua.z.2, .bool ua.r, .slice a5 ua.zs.length c5, .int .i64 ub.t, .complex .f64 ub.z.1 ub.z.2, .bool ub.r, .slice a6 ub.zs.length c6] 32)).alloc (.cells #[.int .i64 0, .complex .f64 0 0, .bool false, .slice none 0 0] 32)) (X.heap.size + 1) 32 [.int .i64 0, .complex .f64 0 0, .bool false, .slice none 0 0]) := fun X a5 c5 a6 c6 => by
            have := Bk.new (X.alloc (.cells #[.int .i64 ua.t, .complex .f64 ua.z.1 ua.z.2, .bool ua.r, .slice a5 ua.zs.length c5, .int .i64 ub.t, .complex .f64 ub.z.1 ub.z.2, .bool ub.r, .slice a6 ub.zs.length c6] 32)) 32 #[.int .i64 0, .complex .f64 0 0, .bool false, .slice none 0 0]
            rwa [show (X.alloc (.cells #[.int .i64 ua.t, .complex .f64 ua.z.1 ua.z.2, .bool ua.r, .slice a5 ua.zs.length c5, .int .i64 ub.t, .complex .f64 ub.z.1 ub.z.2, .bool ub.r, .slice a6 ub.zs.length c6] 32)).heap.size = X.heap.size + 1 by simp] at this
          first | (go_region_held3 (fun X => X.cell? ⟨w.heap.size, 0, none⟩ = some (.int .i64 qa.t) ∧ X.cell? ⟨w.heap.size, 1, none⟩ = some (.int .i64 qa.z.x) ∧ X.cell? ⟨w.heap.size, 2, none⟩ = some (.int .i64 qa.z.y) ∧ X.cell? ⟨w.heap.size, 3, none⟩ = some (.bool qa.z.r) ∧ X.cell? ⟨w.heap.size, 4, none⟩ = some (.bool qa.b) ∧ X.cell? ⟨w.heap.size, 5, none⟩ = some (.slice x1 qa.l.length y1) ∧ X.cell? ⟨w.heap.size + 1, 0, none⟩ = some (.int .i64 qb.t) ∧ X.cell? ⟨w.heap.size + 1, 1, none⟩ = some (.int .i64 qb.z.x) ∧ X.cell? ⟨w.heap.size + 1, 2, none⟩ = some (.int .i64 qb.z.y) ∧ X.cell? ⟨w.heap.size + 1, 3, none⟩ = some (.bool qb.z.r) ∧ X.cell? ⟨w.heap.size + 1, 4, none⟩ = some (.bool qb.b) ∧ X.cell? ⟨w.heap.size + 1, 5, none⟩ = some (.slice x2 qb.l.length y2)) (first | (with_reducible exact s1) | (with_reducible exact sD) | (with_reducible exact sZ) | (with_reducible exact sA) | (with_reducible exact sB) | (with_reducible exact sC) | (with_reducible exact sA1 _) | (with_reducible exact sB1 _) | (with_reducible exact sB2 _ _) | (with_reducible exact sC1 _) | (with_reducible exact HY.out _ (below_alloc _ _)) | (refine HY.out _ ?_; repeat (first | (with_reducible exact bC) | refine Below.setCell ?_ (show Wy.heap.size ≤ Wy.heap.size from Nat.le_refl _) _ | refine Below.setCell ?_ (show Wy.heap.size ≤ wA.heap.size from bA.size) _ | refine Below.setCell ?_ (show Wy.heap.size ≤ wB.heap.size from bB.size) _ | refine Below.setCell ?_ (show Wy.heap.size ≤ wB.heap.size + 1 from Nat.le_succ_of_le bB.size) _ | refine Below.thn ?_ (below_alloc _ _)))) (first
            | (go_at_call 13; (with_reducible refine Calls.mono (HRA.out _ _ a5 c5 a6 c6 (hq1.out wB a5 c5 a6 c6) (v5.alloc _) (v6.alloc _)) ?_); rintro e wC ⟨rfl, hbC⟩; have bC := Below.thn bB (Below.thn (below_alloc wB _) hbC); have sC := HY.out wC bC; have sC1 := fun o => HY.out (wC.alloc o) (Below.thn bC (below_alloc _ o)); first | (have hg := (hg.alloc (.cells #[.int .i64 ua.t, .complex .f64 ua.z.1 ua.z.2, .bool ua.r, .slice a5 ua.zs.length c5, .int .i64 ub.t, .complex .f64 ub.z.1 ub.z.2, .bool ub.r, .slice a6 ub.zs.length c6] 32)).up hbC; have hc := Bk.c4 hg) | skip)
            | (go_at_call 13; (with_reducible refine Calls.mono (HRA.out _ _ a5 c5 a6 c6 (hq2.out wB a5 c5 a6 c6) ((v5.alloc _).alloc _) ((v6.alloc _).alloc _)) ?_); rintro e wC ⟨rfl, hbC⟩; have bC := Below.thn bB (Below.thn (Below.thn (below_alloc wB (.cells #[.int .i64 0, .complex .f64 0 0, .bool false, .slice none 0 0] 32)) (below_alloc _ _)) hbC); have sC := HY.out wC bC; have hg := (hz2.out wB a5 c5 a6 c6).up hbC; have hc := Bk.c4 hg)
            | (go_at_call 13; (with_reducible refine Calls.mono (HRA.out _ _ a5 c5 a6 c6 (hq3.out wB a5 c5 a6 c6) ((v5.alloc _).alloc _) ((v6.alloc _).alloc _)) ?_); rintro e wC ⟨rfl, hbC⟩; have bC := Below.thn bB (Below.thn (Below.thn (below_alloc wB (.cells #[.int .i64 ua.t, .complex .f64 ua.z.1 ua.z.2, .bool ua.r, .slice a5 ua.zs.length c5, .int .i64 ub.t, .complex .f64 ub.z.1 ub.z.2, .bool ub.r, .slice a6 ub.zs.length c6] 32)) (below_alloc _ _)) hbC); have sC := HY.out wC bC; have hg := (hz3.out wB a5 c5 a6 c6).up hbC; have hc := Bk.c4 hg)
            | (go_at_call 11; (with_reducible refine Calls.mono (hV2 _ (K2y.up bA)) ?_); rintro e wB ⟨a6, c6, rfl, v6, hbB⟩; have bB := Below.thn bA hbB; have sB := HY.out wB bB; have sB1 := fun o => HY.out (wB.alloc o) (Below.thn bB (below_alloc _ o)); have sB2 := fun o o2 => HY.out ((wB.alloc o).alloc o2) (Below.thn (Below.thn bB (below_alloc _ o)) (below_alloc _ o2)); have v5 := v5.up hbB; first | (have hg := hg.up hbB) | skip)
            | (go_at_call 11; (with_reducible refine Calls.mono (hV2 _ (K2y.up (Below.thn bA (below_alloc wA (.cells #[.int .i64 0, .complex .f64 0 0, .bool false, .slice none 0 0] 32))))) ?_); rintro e wB ⟨a6, c6, rfl, v6, hbB⟩; have bB := Below.thn (Below.thn bA (below_alloc wA (.cells #[.int .i64 0, .complex .f64 0 0, .bool false, .slice none 0 0] 32))) hbB; have sB := HY.out wB bB; have sB1 := fun o => HY.out (wB.alloc o) (Below.thn bB (below_alloc _ o)); have sB2 := fun o o2 => HY.out ((wB.alloc o).alloc o2) (Below.thn (Below.thn bB (below_alloc _ o)) (below_alloc _ o2)); have v5 := (v5.alloc (.cells #[.int .i64 0, .complex .f64 0 0, .bool false, .slice none 0 0] 32)).up hbB; have hg := (hz1.out wA).up hbB)
            | (go_at_call 11; (with_reducible refine Calls.mono (hV1 _ (K1y.up bD)) ?_); rintro e wA ⟨a5, c5, rfl, v5, hbA⟩; have bA := Below.thn bD hbA; have sA := HY.out wA bA; have sA1 := fun o => HY.out (wA.alloc o) (Below.thn bA (below_alloc _ o)))
            | (go_at_call 11; (with_reducible refine Calls.mono (hV1 _ (K1y.up bZ)) ?_); rintro e wA ⟨a5, c5, rfl, v5, hbA⟩; have bA := Below.thn bZ hbA; have sA := HY.out wA bA; have sA1 := fun o => HY.out (wA.alloc o) (Below.thn bA (below_alloc _ o)); have hg := hgZ.out.up hbA)
            | fail)) | fail
          all_goals
            go_wp2_with fail
            go_meet
            case rel =>
              refine ⟨_, rfl, rfl, ?_, ?_⟩
              · first
                  | exact (((hg.set 0 _).set 1 _).set 2 _).set 3 _
                  | exact Bk.new wC 32 #[.int .i64 ut, .complex .f64 ux uy, .bool ur, .slice none 0 0]
              · first
                  | (have hg2 := hg
                     refine Below.setCell (Below.setCell (Below.setCell (Below.setCell bC ?_ _) ?_ _) ?_ _) ?_ _
                     all_goals first | exact Nat.le_refl Wy.heap.size | exact bA.size | exact bB.size | exact Nat.le_succ_of_le bB.size)
                  | exact Below.thn bC (below_alloc _ _)
        case rest =>
          obtain ⟨g9, rfl, rfl, hG9, hBy⟩ := hcut
          have G2 := HG2y.out.up hBy
          have e10 : wc.cell? ⟨w6.heap.size, 0, none⟩ = some (.int .i64 ut) := G2.cell 0
          have e11 : wc.cell? ⟨w6.heap.size, 1, none⟩ = some (.complex .f64 ux uy) := G2.cell 1
          have e12 : wc.cell? ⟨w6.heap.size, 2, none⟩ = some (.bool ur) := G2.cell 2
          have e13 : wc.cell? ⟨w6.heap.size, 3, none⟩ = some (.slice none 0 0) := G2.cell 3
          have e20 : wc.cell? ⟨g9, 0, none⟩ = some (.int .i64 ut) := hG9.cell 0
          have e21 : wc.cell? ⟨g9, 1, none⟩ = some (.complex .f64 ux uy) := hG9.cell 1
          have e22 : wc.cell? ⟨g9, 2, none⟩ = some (.bool ur) := hG9.cell 2
          have e23 : wc.cell? ⟨g9, 3, none⟩ = some (.slice none 0 0) := hG9.cell 3
          have bR := bW.trans ((bY.trans (hBy.mono bY.size)).mono bW.size)
          clear HRA hV1 hV2 HY K1y K2y HG2y G2 hG9
          go_wp2_with (go_at_call 14; (with_reducible refine Calls.mono (hWh _) ?_); rintro e w7 ⟨rfl, hb7⟩)
          go_ret
          exact ⟨rfl, Below.thn bR hb7⟩
end Go.Proofs.Ytebpjcjoapahnaa
