/-
  The walk of ValueBack.
-/
import Derived.Test.YtbgggbkmnfppoaaGreatDoorVu
namespace Go.Proofs.YtbgggbkmnfppoaaGreatDoor
open Go.RowKit
set_option maxRecDepth 100000

theorem sameV_comm (v u : Rv) : sameV v u = sameV u v := by
  unfold sameV
  rw [Bool.eq_iff_iff]
  simp only [Bool.and_eq_true, decide_eq_true_eq]
  exact ⟨fun ⟨⟨a, b⟩, c⟩ => ⟨⟨b, a⟩, c.symm⟩, fun ⟨⟨a, b⟩, c⟩ => ⟨⟨b, a⟩, c.symm⟩⟩
theorem sameV_tx {u x : Vl} (hu : okV u) (hx : okV x) : sameV (ofV u) (ofV x) = decide (txV u = txV x) := by
  unfold sameV
  rw [sound_ofV hu, sound_ofV hx, Bool.true_and, Bool.true_and, Bool.eq_iff_iff, decide_eq_true_eq, decide_eq_true_eq]
  constructor
  · intro h; rw [ofV_inj hu hx h]
  · intro h; rw [txV_inj rdG_rdr hu hx h]

theorem txV_len {u : Vl} (hu : okV u) : (txV u).length ≤ 20 * (ofV u).zs.length + 22 := by
  cases u with
  | n z => simp only [txV, ofV]; have := txZ_len hu; omega
  | b r => cases r <;> simp [txV, tTrue, tFalse]
  | l zs =>
    simp only [txV, ofV, List.length_map, List.length_cons, List.length_append, List.length_nil]
    have := inner_len hu
    omega

set_option maxHeartbeats 8000000 in
theorem valueBack_any (qa qb : Qv) (l : List UInt8) (a1 a2 : Option Addr) (c1 c2 : Nat) (w : World) (hE : Env w) (h1 : Qr w a1 qa) (h2 : Qr w a2 qb) (hl : l.length ≤ 4194304) (hn1 : qa.l.length ≤ 4194304) :
    Calls Tryz.prog 5 #[qV a1 c1 qa, qV a2 c2 qb, .string (bs l)] w fun e w' => e = .returned (.bool true) ∧ Below w.heap.size w w' := by
  have b0 := Below.thn (below_alloc w (qObj a1 c1 qa)) (below_alloc _ (qObj a2 c2 qb))
  have m1 : Q6 _ w.heap.size a1 c1 qa := (Bk.new w 26 #[.int .i64 qa.t, .int .i64 qa.z.x, .int .i64 qa.z.y, .bool qa.z.r, .bool qa.b, .slice a1 qa.l.length c1]).up (below_alloc _ (qObj a2 c2 qb))
  have m2 : Q6 _ (w.alloc (qObj a1 c1 qa)).heap.size a2 c2 qb := Bk.new (w.alloc (qObj a1 c1 qa)) 26 #[.int .i64 qb.t, .int .i64 qb.z.x, .int .i64 qb.z.y, .bool qb.z.r, .bool qb.b, .slice a2 qb.l.length c2]
  rw [show (w.alloc (qObj a1 c1 qa)).heap.size = w.heap.size + 1 by simp] at m2
  have k1 := h1.up b0
  have k2 := h2.up b0
  have hE0 := env_keep hE b0
  have hV1 := fun W (hW : Qr W a1 qa) => valV_any qa a1 c1 W hW.l hW.n
  have hV2 := fun W (hW : Qr W a2 qb) => valV_any qb a2 c2 W hW.l hW.n
  obtain ⟨ta, hta⟩ := txR_fun qa.rv
  obtain ⟨tb, htb⟩ := txR_fun qb.rv
  obtain ⟨ka, hka⟩ : ∃ k : Int, Hid (k = if soundV qa.rv then 0 else 3) := ⟨_, rfl⟩
  obtain ⟨kb, hkb⟩ : ∃ k : Int, Hid (k = if soundV qb.rv then 0 else 3) := ⟨_, rfl⟩
  rw [← hka.out] at hta
  rw [← hkb.out] at htb
  have HA : Hid (∀ e, txR qa.rv e → e = .returned (.tuple #[.string (bs ta), .int .i64 ka])) := hta
  have HB : Hid (∀ e, txR qb.rv e → e = .returned (.tuple #[.string (bs tb), .int .i64 kb])) := htb
  have hTA : ∀ u, okV u → qa.rv = ofV u → ta = txV u := by
    intro u hu e
    have := hta _ (txR_yes hu e rfl)
    simp only [Ending.returned.injEq, Value.tuple.injEq, Array.mk.injEq, List.cons.injEq, Value.string.injEq] at this
    have h2 := congrArg (fun b => b.data.toList) this.1
    simpa [bs] using h2.symm
  have hTB : ∀ u, okV u → qb.rv = ofV u → tb = txV u := by
    intro u hu e
    have := htb _ (txR_yes hu e rfl)
    simp only [Ending.returned.injEq, Value.tuple.injEq, Array.mk.injEq, List.cons.injEq, Value.string.injEq] at this
    have h2 := congrArg (fun b => b.data.toList) this.1
    simpa [bs] using h2.symm
  have HTA : Hid (∀ u, okV u → qa.rv = ofV u → ta = txV u) := hTA
  have HTB : Hid (∀ u, okV u → qb.rv = ofV u → tb = txV u) := hTB
  have hcka := fun x y W (hv : Vr W x qa.rv) => check_any qa.rv x y W hv.z hv.l hv.n
  rw [← hka.out] at hcka
  have hsab := fun x y x' y' W (hv : Vr W x qa.rv) (hu : Vr W x' qb.rv) => same_any qa.rv qb.rv x x' y y' W hv hu
  have hsba := fun x y x' y' W (hv : Vr W x qb.rv) (hu : Vr W x' qa.rv) => same_any qb.rv qa.rv x x' y y' W hv hu
  have hsva : ∀ x y x' y' W, Vr W x qa.rv → Vr W x' qa.rv → Calls Tryz.prog 14 #[.agg #[.int .i64 qa.rv.t, .complex .f64 qa.rv.z.1 qa.rv.z.2, .bool qa.rv.r, .slice x qa.rv.zs.length y], vV x' y' qa.rv] W fun e w' => e = .returned (.bool (sameV qa.rv qa.rv)) ∧ Below W.heap.size W w' := fun x y x' y' W hv hu => same_any qa.rv qa.rv x x' y y' W hv hu
  rw [sameV_comm qb.rv qa.rv] at hsba
  have hpar := fun W (hW : Env W) => parseV_any l (by omega) W hW
  clear hta htb hTA hTB
  unfold qV qObj at *
  generalize hW0 : (w.alloc (.cells #[.int .i64 qa.t, .int .i64 qa.z.x, .int .i64 qa.z.y, .bool qa.z.r, .bool qa.b, .slice a1 qa.l.length c1] 26)).alloc (.cells #[.int .i64 qb.t, .int .i64 qb.z.x, .int .i64 qb.z.y, .bool qb.z.r, .bool qb.b, .slice a2 qb.l.length c2] 26) = W0 at *
  go_enter Tryz.func5, Tryz.ntmps5
  go_wp2_with fail
  refine (awake9_any _ hE0).mono ?_
  rintro e w1 ⟨rfl, hb1⟩
  clear hW0
  have B1 : Below W0.heap.size W0 w1 := hb1
  clear hb1
  go_wp2_with fail
  refine (hpar _ (env_keep hE0 B1)).mono ?_
  rintro e w2 ⟨hpa, hb2⟩
  obtain ⟨xp, yp, rfl, hvp, hOp⟩ := hpa.ex
  have B2 := Below.thn B1 hb2
  have hZ0 := Bk.new w2 35 #[.int .i64 0, .complex .f64 0 0, .bool false, .slice none 0 0]
  clear hpa hOp hb2
  unfold vV
  cases hg : pvV rdG l with
  | none =>
    rw [hg] at hvp
    rw [show pR none = rv0 from rfl] at hvp
    rw [show pR none = rv0 from rfl, show pE none = 11 from rfl]
    unfold rv0
    clear hvp hg hpar
    go_upto_region 8 with (refine wpList_storeN rfl 35 (.tmp 7) (.tmp 21) rfl w2.heap.size 0 [.int .i64 0, .complex .f64 0 0, .bool false, .slice xp 0 yp] rfl rfl hZ0 (Nat.le_refl 4) Tryz.infoV (one4 _ _ _ _ _ _ _) ?_; intro w4 hB4 hO4)
    have B4 : Below W0.heap.size W0 w4 := Below.thn B2 ((below_alloc w2 _).trans (hO4.below (Nat.le_refl _)))
    clear hZ0 hB4 hO4 B1 B2
    obtain ⟨p0, p1, p2, p3, p4, p5⟩ := (show Q6 _ _ _ _ _ from Bk.up m1 B4).cells
    go_wp2_with fail
    refine (hV1 _ (k1.up B4)).mono ?_
    rintro e w5 ⟨x5, y5, rfl, v5, hb5⟩
    have B5 := Below.thn B4 hb5
    clear p0 p1 p2 p3 p4 p5
    go_wp2_with fail
    refine (text_any qa.rv x5 y5 w5 (env_keep hE0 B5).tab v5).mono ?_
    rintro e w6 ⟨ht6, hb6⟩
    have B6 := Below.thn B5 hb6
    have e6 := HA.out _ ht6
    subst e6
    clear ht6 v5 hb5 hb6
    obtain ⟨p0, p1, p2, p3, p4, p5⟩ := (show Q6 _ _ _ _ _ from Bk.up m2 B6).cells
    go_wp2_with fail
    refine (hV2 _ (k2.up B6)).mono ?_
    rintro e w7 ⟨x7, y7, rfl, v7, hb7⟩
    have B7 := Below.thn B6 hb7
    clear p0 p1 p2 p3 p4 p5
    go_wp2_with fail
    refine (text_any qb.rv x7 y7 w7 (env_keep hE0 B7).tab v7).mono ?_
    rintro e w9 ⟨ht9, hb9⟩
    have B9 := Below.thn B7 hb9
    have e9 := HB.out _ ht9
    subst e9
    clear ht9 v7 hb7 hb9
    have b9 := Below.thn b0 B9
    have M1 : Q6 w9 w.heap.size a1 c1 qa := Bk.up m1 B9
    have M2 : Q6 w9 (w.heap.size + 1) a2 c2 qb := Bk.up m2 B9
    have K1 := k1.up B9
    have K2 := k2.up B9
    by_cases hoth : soundV qa.rv = true ∧ soundV qb.rv = true
    · obtain ⟨sa, sb⟩ := hoth
      have hka2 := hka.out
      have hkb2 := hkb.out
      rw [sa, if_pos rfl] at hka2
      rw [sb, if_pos rfl] at hkb2
      subst hka2 hkb2
      obtain ⟨ua, hua, ea⟩ := sound_is sa
      obtain ⟨ub, hub, eb⟩ := sound_is sb
      have tae := HTA.out ua hua ea
      have tbe := HTB.out ub hub eb
      have hln := txV_len hua
      rw [← ea] at hln
      have hzl : qa.rv.zs.length = qa.l.length := List.length_map _
      have hpt := parseV_any ta (by rw [tae]; omega) w9 (env_keep hE0 B9)
      rw [tae, pv_txV rdG_rdr hua, ← tae] at hpt
      have hsm : sameV qa.rv qb.rv = ((bs ta).toList == (bs tb).toList) := by
        rw [bs_toList, bs_toList, ea, eb, sameV_tx hua hub, tae, tbe, Bool.eq_iff_iff, beq_iff_eq, decide_eq_true_eq]
      have hss : sameV qa.rv qa.rv = true := by unfold sameV; rw [sa]; simp
      rw [hsm] at hsab hsba
      rw [hss] at hsva
      clear hka hkb HTA HTB HA HB hsm hss hln hzl tae tbe m1 m2 k1 k2 hcka
      go_wp2_with fail
      refine hpt.mono ?_
      rintro e wq ⟨hpq, hbq⟩
      obtain ⟨xp, yp, rfl, hvq, _⟩ := hpq.ex
      rw [show pR (some ua) = ofV ua from rfl, ← ea] at hvq
      rw [show pR (some ua) = ofV ua from rfl, ← ea, show pE (some ua) = 0 from rfl]
      clear ea eb
      unfold vV
      have hZq := Bk.new wq 35 #[.int .i64 0, .complex .f64 0 0, .bool false, .slice none 0 0]
      clear hpq hpt
      go_upto_region 13 with (refine wpList_storeN rfl 35 (.tmp 15) (.tmp 78) rfl wq.heap.size 0 [.int .i64 qa.rv.t, .complex .f64 qa.rv.z.1 qa.rv.z.2, .bool qa.rv.r, .slice xp qa.rv.zs.length yp] rfl rfl hZq (Nat.le_refl 4) Tryz.infoV (one4 _ _ _ _ _ _ _) ?_; intro wA M3 hOA)
      have bqA : Below wq.heap.size wq wA := (below_alloc wq _).trans (hOA.below (Nat.le_refl _))
      have b9A := Below.thn hbq bqA
      have bA := Below.thn b9 b9A
      replace M1 : Q6 wA w.heap.size a1 c1 qa := Bk.up M1 b9A
      replace M2 : Q6 wA (w.heap.size + 1) a2 c2 qb := Bk.up M2 b9A
      replace K1 := K1.up b9A
      replace K2 := K2.up b9A
      have VP := hvq.up bqA
      have hpb : ∃ pb, pb = wq.heap.size := ⟨_, rfl⟩
      obtain ⟨pb, hpb⟩ := hpb
      rw [← hpb] at M3 ⊢
      clear hpb hvq hOA hZq bqA b9A hbq b9 hua hub sa sb
      have hlt1 := Bk.lt M1
      have hlt2 := Bk.lt M2
      have hlt3 := Bk.lt M3
      have hSS : ∀ X, Below wA.heap.size wA X → X.cell? ⟨w.heap.size, 0, none⟩ = some (.int .i64 qa.t) ∧ X.cell? ⟨w.heap.size, 1, none⟩ = some (.int .i64 qa.z.x) ∧ X.cell? ⟨w.heap.size, 2, none⟩ = some (.int .i64 qa.z.y) ∧ X.cell? ⟨w.heap.size, 3, none⟩ = some (.bool qa.z.r) ∧ X.cell? ⟨w.heap.size, 4, none⟩ = some (.bool qa.b) ∧ X.cell? ⟨w.heap.size, 5, none⟩ = some (.slice a1 qa.l.length c1) ∧ X.cell? ⟨w.heap.size + 1, 0, none⟩ = some (.int .i64 qb.t) ∧ X.cell? ⟨w.heap.size + 1, 1, none⟩ = some (.int .i64 qb.z.x) ∧ X.cell? ⟨w.heap.size + 1, 2, none⟩ = some (.int .i64 qb.z.y) ∧ X.cell? ⟨w.heap.size + 1, 3, none⟩ = some (.bool qb.z.r) ∧ X.cell? ⟨w.heap.size + 1, 4, none⟩ = some (.bool qb.b) ∧ X.cell? ⟨w.heap.size + 1, 5, none⟩ = some (.slice a2 qb.l.length c2) ∧ X.cell? ⟨pb, 0, none⟩ = some (.int .i64 qa.rv.t) ∧ X.cell? ⟨pb, 1, none⟩ = some (.complex .f64 qa.rv.z.1 qa.rv.z.2) ∧ X.cell? ⟨pb, 2, none⟩ = some (.bool qa.rv.r) ∧ X.cell? ⟨pb, 3, none⟩ = some (.slice xp qa.rv.zs.length yp) := by
        intro X hX
        obtain ⟨u0, u1, u2, u3, u4, u5⟩ := M1.cells
        obtain ⟨z0, z1, z2, z3, z4, z5⟩ := M2.cells
        have y0 := M3.cell 0; have y1 := M3.cell 1; have y2 := M3.cell 2; have y3 := M3.cell 3
        exact ⟨(hX.cell hlt1).trans u0, (hX.cell hlt1).trans u1, (hX.cell hlt1).trans u2, (hX.cell hlt1).trans u3, (hX.cell hlt1).trans u4, (hX.cell hlt1).trans u5, (hX.cell hlt2).trans z0, (hX.cell hlt2).trans z1, (hX.cell hlt2).trans z2, (hX.cell hlt2).trans z3, (hX.cell hlt2).trans z4, (hX.cell hlt2).trans z5, (hX.cell hlt3).trans y0, (hX.cell hlt3).trans y1, (hX.cell hlt3).trans y2, (hX.cell hlt3).trans y3⟩
      have HS : Hid (∀ X, Below wA.heap.size wA X → X.cell? ⟨w.heap.size, 0, none⟩ = some (.int .i64 qa.t) ∧ X.cell? ⟨w.heap.size, 1, none⟩ = some (.int .i64 qa.z.x) ∧ X.cell? ⟨w.heap.size, 2, none⟩ = some (.int .i64 qa.z.y) ∧ X.cell? ⟨w.heap.size, 3, none⟩ = some (.bool qa.z.r) ∧ X.cell? ⟨w.heap.size, 4, none⟩ = some (.bool qa.b) ∧ X.cell? ⟨w.heap.size, 5, none⟩ = some (.slice a1 qa.l.length c1) ∧ X.cell? ⟨w.heap.size + 1, 0, none⟩ = some (.int .i64 qb.t) ∧ X.cell? ⟨w.heap.size + 1, 1, none⟩ = some (.int .i64 qb.z.x) ∧ X.cell? ⟨w.heap.size + 1, 2, none⟩ = some (.int .i64 qb.z.y) ∧ X.cell? ⟨w.heap.size + 1, 3, none⟩ = some (.bool qb.z.r) ∧ X.cell? ⟨w.heap.size + 1, 4, none⟩ = some (.bool qb.b) ∧ X.cell? ⟨w.heap.size + 1, 5, none⟩ = some (.slice a2 qb.l.length c2) ∧ X.cell? ⟨pb, 0, none⟩ = some (.int .i64 qa.rv.t) ∧ X.cell? ⟨pb, 1, none⟩ = some (.complex .f64 qa.rv.z.1 qa.rv.z.2) ∧ X.cell? ⟨pb, 2, none⟩ = some (.bool qa.rv.r) ∧ X.cell? ⟨pb, 3, none⟩ = some (.slice xp qa.rv.zs.length yp)) := hSS
      have s4 := hSS wA (Below.refl _ _)
      have bD := (Below.refl wA.heap.size wA).drew
      have sD := hSS wA.drew bD
      clear hSS
      cases hsx : ((bs ta).toList == (bs tb).toList) with
      | true =>
        rw [hsx] at hsab hsba
        first | (go_region_held3 (fun X => X.cell? ⟨w.heap.size, 0, none⟩ = some (.int .i64 qa.t) ∧ X.cell? ⟨w.heap.size, 1, none⟩ = some (.int .i64 qa.z.x) ∧ X.cell? ⟨w.heap.size, 2, none⟩ = some (.int .i64 qa.z.y) ∧ X.cell? ⟨w.heap.size, 3, none⟩ = some (.bool qa.z.r) ∧ X.cell? ⟨w.heap.size, 4, none⟩ = some (.bool qa.b) ∧ X.cell? ⟨w.heap.size, 5, none⟩ = some (.slice a1 qa.l.length c1) ∧ X.cell? ⟨w.heap.size + 1, 0, none⟩ = some (.int .i64 qb.t) ∧ X.cell? ⟨w.heap.size + 1, 1, none⟩ = some (.int .i64 qb.z.x) ∧ X.cell? ⟨w.heap.size + 1, 2, none⟩ = some (.int .i64 qb.z.y) ∧ X.cell? ⟨w.heap.size + 1, 3, none⟩ = some (.bool qb.z.r) ∧ X.cell? ⟨w.heap.size + 1, 4, none⟩ = some (.bool qb.b) ∧ X.cell? ⟨w.heap.size + 1, 5, none⟩ = some (.slice a2 qb.l.length c2) ∧ X.cell? ⟨pb, 0, none⟩ = some (.int .i64 qa.rv.t) ∧ X.cell? ⟨pb, 1, none⟩ = some (.complex .f64 qa.rv.z.1 qa.rv.z.2) ∧ X.cell? ⟨pb, 2, none⟩ = some (.bool qa.rv.r) ∧ X.cell? ⟨pb, 3, none⟩ = some (.slice xp qa.rv.zs.length yp))
          (first | (with_reducible exact sD) | (with_reducible exact s4) | (with_reducible exact sa) | (with_reducible exact sb) | (with_reducible exact sc) | (with_reducible exact sd) | (with_reducible exact se) | (with_reducible exact sf) | (with_reducible exact sg) | (with_reducible exact sh) | (with_reducible exact si) | (with_reducible exact sj) | (with_reducible exact sk)) (first
          | (go_at_call 14; (with_reducible refine Calls.mono (hsab xi yi xj yj _ vij vj) ?_); rintro e wk ⟨rfl, hbk⟩; have bk := Below.thn bj hbk; have sk := HS.out wk bk)
          | (go_at_call 10; (with_reducible refine Calls.mono (hV2 _ (K2.up bi)) ?_); rintro e wj ⟨xj, yj, rfl, vj, hbj⟩; have bj := Below.thn bi hbj; have sj := HS.out wj bj; have vij := vi.up hbj)
          | (go_at_call 10; (with_reducible refine Calls.mono (hV1 _ (K1.up bh)) ?_); rintro e wi ⟨xi, yi, rfl, vi, hbi⟩; have bi := Below.thn bh hbi; have si := HS.out wi bi)
          | (go_at_call 14; (with_reducible refine Calls.mono (hsba xf yf xg yg _ vfg vg) ?_); rintro e wh ⟨rfl, hbh⟩; have bh := Below.thn bg hbh; have sh := HS.out wh bh)
          | (go_at_call 10; (with_reducible refine Calls.mono (hV1 _ (K1.up bf)) ?_); rintro e wg ⟨xg, yg, rfl, vg, hbg⟩; have bg := Below.thn bf hbg; have sg := HS.out wg bg; have vfg := vf.up hbg)
          | (go_at_call 10; (with_reducible refine Calls.mono (hV2 _ (K2.up be)) ?_); rintro e wf ⟨xf, yf, rfl, vf, hbf⟩; have bf := Below.thn be hbf; have sf := HS.out wf bf)
          | (go_at_call 14; (with_reducible refine Calls.mono (hsab xc yc xd yd _ vcd vd) ?_); rintro e we ⟨rfl, hbe⟩; have be := Below.thn bd hbe; have se := HS.out we be)
          | (go_at_call 10; (with_reducible refine Calls.mono (hV2 _ (K2.up bc)) ?_); rintro e wd ⟨xd, yd, rfl, vd, hbd⟩; have bd := Below.thn bc hbd; have sd := HS.out wd bd; have vcd := vc.up hbd)
          | (go_at_call 10; (with_reducible refine Calls.mono (hV1 _ (K1.up bb)) ?_); rintro e wc ⟨xc, yc, rfl, vc, hbc⟩; have bc := Below.thn bb hbc; have sc := HS.out wc bc)
          | (go_at_call 14; (with_reducible refine Calls.mono (hsva xp yp xa ya _ (VP.up ba) va) ?_); rintro e wb ⟨rfl, hbb⟩; have bb := Below.thn ba hbb; have sb := HS.out wb bb)
          | (go_at_call 10; (with_reducible refine Calls.mono (hV1 _ (K1.up bD)) ?_); rintro e wa ⟨xa, ya, rfl, va, hba⟩; have ba := Below.thn bD hba; have sa := HS.out wa ba)
          | fail)) | fail
        all_goals
          go_wp2_with fail
          go_ret
          exact ⟨rfl, Below.thn bA bk⟩
      | false =>
        rw [hsx] at hsab hsba
        first | (go_region_held3 (fun X => X.cell? ⟨w.heap.size, 0, none⟩ = some (.int .i64 qa.t) ∧ X.cell? ⟨w.heap.size, 1, none⟩ = some (.int .i64 qa.z.x) ∧ X.cell? ⟨w.heap.size, 2, none⟩ = some (.int .i64 qa.z.y) ∧ X.cell? ⟨w.heap.size, 3, none⟩ = some (.bool qa.z.r) ∧ X.cell? ⟨w.heap.size, 4, none⟩ = some (.bool qa.b) ∧ X.cell? ⟨w.heap.size, 5, none⟩ = some (.slice a1 qa.l.length c1) ∧ X.cell? ⟨w.heap.size + 1, 0, none⟩ = some (.int .i64 qb.t) ∧ X.cell? ⟨w.heap.size + 1, 1, none⟩ = some (.int .i64 qb.z.x) ∧ X.cell? ⟨w.heap.size + 1, 2, none⟩ = some (.int .i64 qb.z.y) ∧ X.cell? ⟨w.heap.size + 1, 3, none⟩ = some (.bool qb.z.r) ∧ X.cell? ⟨w.heap.size + 1, 4, none⟩ = some (.bool qb.b) ∧ X.cell? ⟨w.heap.size + 1, 5, none⟩ = some (.slice a2 qb.l.length c2) ∧ X.cell? ⟨pb, 0, none⟩ = some (.int .i64 qa.rv.t) ∧ X.cell? ⟨pb, 1, none⟩ = some (.complex .f64 qa.rv.z.1 qa.rv.z.2) ∧ X.cell? ⟨pb, 2, none⟩ = some (.bool qa.rv.r) ∧ X.cell? ⟨pb, 3, none⟩ = some (.slice xp qa.rv.zs.length yp))
          (first | (with_reducible exact sD) | (with_reducible exact s4) | (with_reducible exact sa) | (with_reducible exact sb) | (with_reducible exact sc) | (with_reducible exact sd) | (with_reducible exact se) | (with_reducible exact sf) | (with_reducible exact sg) | (with_reducible exact sh) | (with_reducible exact si) | (with_reducible exact sj) | (with_reducible exact sk)) (first
          | (go_at_call 14; (with_reducible refine Calls.mono (hsab xi yi xj yj _ vij vj) ?_); rintro e wk ⟨rfl, hbk⟩; have bk := Below.thn bj hbk; have sk := HS.out wk bk)
          | (go_at_call 10; (with_reducible refine Calls.mono (hV2 _ (K2.up bi)) ?_); rintro e wj ⟨xj, yj, rfl, vj, hbj⟩; have bj := Below.thn bi hbj; have sj := HS.out wj bj; have vij := vi.up hbj)
          | (go_at_call 10; (with_reducible refine Calls.mono (hV1 _ (K1.up bh)) ?_); rintro e wi ⟨xi, yi, rfl, vi, hbi⟩; have bi := Below.thn bh hbi; have si := HS.out wi bi)
          | (go_at_call 14; (with_reducible refine Calls.mono (hsba xf yf xg yg _ vfg vg) ?_); rintro e wh ⟨rfl, hbh⟩; have bh := Below.thn bg hbh; have sh := HS.out wh bh)
          | (go_at_call 10; (with_reducible refine Calls.mono (hV1 _ (K1.up bf)) ?_); rintro e wg ⟨xg, yg, rfl, vg, hbg⟩; have bg := Below.thn bf hbg; have sg := HS.out wg bg; have vfg := vf.up hbg)
          | (go_at_call 10; (with_reducible refine Calls.mono (hV2 _ (K2.up be)) ?_); rintro e wf ⟨xf, yf, rfl, vf, hbf⟩; have bf := Below.thn be hbf; have sf := HS.out wf bf)
          | (go_at_call 14; (with_reducible refine Calls.mono (hsab xc yc xd yd _ vcd vd) ?_); rintro e we ⟨rfl, hbe⟩; have be := Below.thn bd hbe; have se := HS.out we be)
          | (go_at_call 10; (with_reducible refine Calls.mono (hV2 _ (K2.up bc)) ?_); rintro e wd ⟨xd, yd, rfl, vd, hbd⟩; have bd := Below.thn bc hbd; have sd := HS.out wd bd; have vcd := vc.up hbd)
          | (go_at_call 10; (with_reducible refine Calls.mono (hV1 _ (K1.up bb)) ?_); rintro e wc ⟨xc, yc, rfl, vc, hbc⟩; have bc := Below.thn bb hbc; have sc := HS.out wc bc)
          | (go_at_call 14; (with_reducible refine Calls.mono (hsva xp yp xa ya _ (VP.up ba) va) ?_); rintro e wb ⟨rfl, hbb⟩; have bb := Below.thn ba hbb; have sb := HS.out wb bb)
          | (go_at_call 10; (with_reducible refine Calls.mono (hV1 _ (K1.up bD)) ?_); rintro e wa ⟨xa, ya, rfl, va, hba⟩; have ba := Below.thn bD hba; have sa := HS.out wa ba)
          | fail)) | fail
        all_goals
          go_wp2_with fail
          go_ret
          exact ⟨rfl, Below.thn bA bk⟩
    · have hsm : sameV qa.rv qb.rv = false := by
        unfold sameV
        rw [Bool.and_eq_false_iff]
        left
        rw [Bool.and_eq_false_iff]
        by_cases sa : soundV qa.rv = true
        · right
          by_cases sb : soundV qb.rv = true
          · exact absurd ⟨sa, sb⟩ hoth
          · simpa using sb
        · left; simpa using sa
      rw [hsm] at hsab
      have hk : (¬ ka = 0) ∨ (ka = 0 ∧ (kb != 0) = true) := by
        by_cases sa : soundV qa.rv = true
        · right
          have sb : soundV qb.rv = false := by
            by_cases sb : soundV qb.rv = true
            · exact absurd ⟨sa, sb⟩ hoth
            · simpa using sb
          rw [hka.out, hkb.out, sa, sb]; exact ⟨rfl, rfl⟩
        · left
          have sa' : soundV qa.rv = false := by simpa using sa
          rw [hka.out, sa']; decide
      clear hka hkb HTA HTB HA HB hsm hoth m1 m2 k1 k2 hsba hsva
      have hlt1 := Bk.lt M1
      have hlt2 := Bk.lt M2
      have hSS : ∀ X, Below w9.heap.size w9 X → X.cell? ⟨w.heap.size, 0, none⟩ = some (.int .i64 qa.t) ∧ X.cell? ⟨w.heap.size, 1, none⟩ = some (.int .i64 qa.z.x) ∧ X.cell? ⟨w.heap.size, 2, none⟩ = some (.int .i64 qa.z.y) ∧ X.cell? ⟨w.heap.size, 3, none⟩ = some (.bool qa.z.r) ∧ X.cell? ⟨w.heap.size, 4, none⟩ = some (.bool qa.b) ∧ X.cell? ⟨w.heap.size, 5, none⟩ = some (.slice a1 qa.l.length c1) ∧ X.cell? ⟨w.heap.size + 1, 0, none⟩ = some (.int .i64 qb.t) ∧ X.cell? ⟨w.heap.size + 1, 1, none⟩ = some (.int .i64 qb.z.x) ∧ X.cell? ⟨w.heap.size + 1, 2, none⟩ = some (.int .i64 qb.z.y) ∧ X.cell? ⟨w.heap.size + 1, 3, none⟩ = some (.bool qb.z.r) ∧ X.cell? ⟨w.heap.size + 1, 4, none⟩ = some (.bool qb.b) ∧ X.cell? ⟨w.heap.size + 1, 5, none⟩ = some (.slice a2 qb.l.length c2) := by
        intro X hX
        obtain ⟨u0, u1, u2, u3, u4, u5⟩ := M1.cells
        obtain ⟨z0, z1, z2, z3, z4, z5⟩ := M2.cells
        exact ⟨(hX.cell hlt1).trans u0, (hX.cell hlt1).trans u1, (hX.cell hlt1).trans u2, (hX.cell hlt1).trans u3, (hX.cell hlt1).trans u4, (hX.cell hlt1).trans u5, (hX.cell hlt2).trans z0, (hX.cell hlt2).trans z1, (hX.cell hlt2).trans z2, (hX.cell hlt2).trans z3, (hX.cell hlt2).trans z4, (hX.cell hlt2).trans z5⟩
      have HS : Hid (∀ X, Below w9.heap.size w9 X → X.cell? ⟨w.heap.size, 0, none⟩ = some (.int .i64 qa.t) ∧ X.cell? ⟨w.heap.size, 1, none⟩ = some (.int .i64 qa.z.x) ∧ X.cell? ⟨w.heap.size, 2, none⟩ = some (.int .i64 qa.z.y) ∧ X.cell? ⟨w.heap.size, 3, none⟩ = some (.bool qa.z.r) ∧ X.cell? ⟨w.heap.size, 4, none⟩ = some (.bool qa.b) ∧ X.cell? ⟨w.heap.size, 5, none⟩ = some (.slice a1 qa.l.length c1) ∧ X.cell? ⟨w.heap.size + 1, 0, none⟩ = some (.int .i64 qb.t) ∧ X.cell? ⟨w.heap.size + 1, 1, none⟩ = some (.int .i64 qb.z.x) ∧ X.cell? ⟨w.heap.size + 1, 2, none⟩ = some (.int .i64 qb.z.y) ∧ X.cell? ⟨w.heap.size + 1, 3, none⟩ = some (.bool qb.z.r) ∧ X.cell? ⟨w.heap.size + 1, 4, none⟩ = some (.bool qb.b) ∧ X.cell? ⟨w.heap.size + 1, 5, none⟩ = some (.slice a2 qb.l.length c2)) := hSS
      have s4 := hSS w9 (Below.refl _ _)
      have bD := (Below.refl w9.heap.size w9).drew
      have sD := hSS w9.drew bD
      clear hSS
      rcases hk with hk | ⟨rfl, hk2⟩
      all_goals
        go_upto_region 11 with fail
        first | (go_region_held3 (fun X => X.cell? ⟨w.heap.size, 0, none⟩ = some (.int .i64 qa.t) ∧ X.cell? ⟨w.heap.size, 1, none⟩ = some (.int .i64 qa.z.x) ∧ X.cell? ⟨w.heap.size, 2, none⟩ = some (.int .i64 qa.z.y) ∧ X.cell? ⟨w.heap.size, 3, none⟩ = some (.bool qa.z.r) ∧ X.cell? ⟨w.heap.size, 4, none⟩ = some (.bool qa.b) ∧ X.cell? ⟨w.heap.size, 5, none⟩ = some (.slice a1 qa.l.length c1) ∧ X.cell? ⟨w.heap.size + 1, 0, none⟩ = some (.int .i64 qb.t) ∧ X.cell? ⟨w.heap.size + 1, 1, none⟩ = some (.int .i64 qb.z.x) ∧ X.cell? ⟨w.heap.size + 1, 2, none⟩ = some (.int .i64 qb.z.y) ∧ X.cell? ⟨w.heap.size + 1, 3, none⟩ = some (.bool qb.z.r) ∧ X.cell? ⟨w.heap.size + 1, 4, none⟩ = some (.bool qb.b) ∧ X.cell? ⟨w.heap.size + 1, 5, none⟩ = some (.slice a2 qb.l.length c2))
          (first | (with_reducible exact sD) | (with_reducible exact s4) | (with_reducible exact sa) | (with_reducible exact sb) | (with_reducible exact sc) | (with_reducible exact sd) | (with_reducible exact se)) (first
          | (go_at_call 14; (with_reducible refine Calls.mono (hsab xc yc xd yd _ vcd vd) ?_); rintro e we ⟨rfl, hbe⟩; have be := Below.thn bd hbe; have se := HS.out we be)
          | (go_at_call 10; (with_reducible refine Calls.mono (hV2 _ (K2.up bc)) ?_); rintro e wd ⟨xd, yd, rfl, vd, hbd⟩; have bd := Below.thn bc hbd; have sd := HS.out wd bd; have vcd := vc.up hbd)
          | (go_at_call 10; (with_reducible refine Calls.mono (hV1 _ (K1.up bb)) ?_); rintro e wc ⟨xc, yc, rfl, vc, hbc⟩; have bc := Below.thn bb hbc; have sc := HS.out wc bc)
          | (go_at_call 13; (with_reducible refine Calls.mono (hcka xa ya _ va) ?_); rintro e wb ⟨rfl, hbb⟩; have bb := Below.thn ba hbb; have sb := HS.out wb bb)
          | (go_at_call 10; (with_reducible refine Calls.mono (hV1 _ (K1.up bD)) ?_); rintro e wa ⟨xa, ya, rfl, va, hba⟩; have ba := Below.thn bD hba; have sa := HS.out wa ba)
          | fail)) | fail
        all_goals
          go_wp2_with fail
          go_ret
          exact ⟨rfl, Below.thn b9 be⟩
  | some u =>
    have hu := pv_of rdG_rdr hg
    rw [hg] at hvp
    rw [show pR (some u) = ofV u from rfl] at hvp
    rw [show pR (some u) = ofV u from rfl, show pE (some u) = 0 from rfl]
    clear hg hpar
    have hso := sound_ofV hu.1
    have hck := fun x y W (hv : Vr W x (ofV u)) => check_any (ofV u) x y W hv.z hv.l hv.n
    rw [hso, if_pos rfl] at hck
    have htx := fun x y W (hT : Tab W) (hv : Vr W x (ofV u)) => text_any (ofV u) x y W hT hv
    have HTU : Hid (∀ e, txR (ofV u) e → e = .returned (.tuple #[.string (bs l), .int .i64 0])) := fun e he => by have := txR_of hu.1 he; rw [hu.2] at this; exact this
    clear hso hu
    unfold vV at hck htx
    generalize ofV u = v at *
    go_wp2_with (refine wpList_storeN rfl 35 (.tmp 7) (.tmp 21) rfl w2.heap.size 0 [.int .i64 v.t, .complex .f64 v.z.1 v.z.2, .bool v.r, .slice xp v.zs.length yp] rfl rfl hZ0 (Nat.le_refl 4) Tryz.infoV (one4 _ _ _ _ _ _ _) ?_; intro w3 hB3 hO3; have z0 : w3.cell? ⟨w2.heap.size, 0, none⟩ = some (.int .i64 v.t) := hB3.cell 0; have z1 : w3.cell? ⟨w2.heap.size, 1, none⟩ = some (.complex .f64 v.z.1 v.z.2) := hB3.cell 1; have z2 : w3.cell? ⟨w2.heap.size, 2, none⟩ = some (.bool v.r) := hB3.cell 2; have z3 : w3.cell? ⟨w2.heap.size, 3, none⟩ = some (.slice xp v.zs.length yp) := hB3.cell 3)
    have b23 : Below w2.heap.size w2 w3 := (below_alloc w2 _).trans (hO3.below (Nat.le_refl _))
    have B3 := Below.thn B2 b23
    refine (htx xp yp w3 (env_keep hE0 B3).tab (hvp.up b23)).mono ?_
    rintro e wt ⟨htt, hbt⟩
    have et := HTU.out _ htt
    subst et
    have Bt := Below.thn B3 hbt
    have hBt := hB3.up hbt
    clear z0 z1 z2 z3
    have z0 : wt.cell? ⟨w2.heap.size, 0, none⟩ = some (.int .i64 v.t) := hBt.cell 0
    have z1 : wt.cell? ⟨w2.heap.size, 1, none⟩ = some (.complex .f64 v.z.1 v.z.2) := hBt.cell 1
    have z2 : wt.cell? ⟨w2.heap.size, 2, none⟩ = some (.bool v.r) := hBt.cell 2
    have z3 : wt.cell? ⟨w2.heap.size, 3, none⟩ = some (.slice xp v.zs.length yp) := hBt.cell 3
    go_wp2_with fail
    refine (hck xp yp wt ((hvp.up b23).up hbt)).mono ?_
    rintro e w4 ⟨rfl, hb4⟩
    have B4 := Below.thn Bt hb4
    clear hZ0 hB3 hO3 B1 B2 hvp b23 B3 htt hbt Bt hBt z0 z1 z2 z3 hb4 hck htx HTU
    go_upto_region 8 with fail
    obtain ⟨p0, p1, p2, p3, p4, p5⟩ := (show Q6 _ _ _ _ _ from Bk.up m1 B4).cells
    go_wp2_with fail
    refine (hV1 _ (k1.up B4)).mono ?_
    rintro e w5 ⟨x5, y5, rfl, v5, hb5⟩
    have B5 := Below.thn B4 hb5
    clear p0 p1 p2 p3 p4 p5
    go_wp2_with fail
    refine (text_any qa.rv x5 y5 w5 (env_keep hE0 B5).tab v5).mono ?_
    rintro e w6 ⟨ht6, hb6⟩
    have B6 := Below.thn B5 hb6
    have e6 := HA.out _ ht6
    subst e6
    clear ht6 v5 hb5 hb6
    obtain ⟨p0, p1, p2, p3, p4, p5⟩ := (show Q6 _ _ _ _ _ from Bk.up m2 B6).cells
    go_wp2_with fail
    refine (hV2 _ (k2.up B6)).mono ?_
    rintro e w7 ⟨x7, y7, rfl, v7, hb7⟩
    have B7 := Below.thn B6 hb7
    clear p0 p1 p2 p3 p4 p5
    go_wp2_with fail
    refine (text_any qb.rv x7 y7 w7 (env_keep hE0 B7).tab v7).mono ?_
    rintro e w9 ⟨ht9, hb9⟩
    have B9 := Below.thn B7 hb9
    have e9 := HB.out _ ht9
    subst e9
    clear ht9 v7 hb7 hb9
    have b9 := Below.thn b0 B9
    have M1 : Q6 w9 w.heap.size a1 c1 qa := Bk.up m1 B9
    have M2 : Q6 w9 (w.heap.size + 1) a2 c2 qb := Bk.up m2 B9
    have K1 := k1.up B9
    have K2 := k2.up B9
    by_cases hoth : soundV qa.rv = true ∧ soundV qb.rv = true
    · obtain ⟨sa, sb⟩ := hoth
      have hka2 := hka.out
      have hkb2 := hkb.out
      rw [sa, if_pos rfl] at hka2
      rw [sb, if_pos rfl] at hkb2
      subst hka2 hkb2
      obtain ⟨ua, hua, ea⟩ := sound_is sa
      obtain ⟨ub, hub, eb⟩ := sound_is sb
      have tae := HTA.out ua hua ea
      have tbe := HTB.out ub hub eb
      have hln := txV_len hua
      rw [← ea] at hln
      have hzl : qa.rv.zs.length = qa.l.length := List.length_map _
      have hpt := parseV_any ta (by rw [tae]; omega) w9 (env_keep hE0 B9)
      rw [tae, pv_txV rdG_rdr hua, ← tae] at hpt
      have hsm : sameV qa.rv qb.rv = ((bs ta).toList == (bs tb).toList) := by
        rw [bs_toList, bs_toList, ea, eb, sameV_tx hua hub, tae, tbe, Bool.eq_iff_iff, beq_iff_eq, decide_eq_true_eq]
      have hss : sameV qa.rv qa.rv = true := by unfold sameV; rw [sa]; simp
      rw [hsm] at hsab hsba
      rw [hss] at hsva
      clear hka hkb HTA HTB HA HB hsm hss hln hzl tae tbe m1 m2 k1 k2 hcka
      go_wp2_with fail
      refine hpt.mono ?_
      rintro e wq ⟨hpq, hbq⟩
      obtain ⟨xp, yp, rfl, hvq, _⟩ := hpq.ex
      rw [show pR (some ua) = ofV ua from rfl, ← ea] at hvq
      rw [show pR (some ua) = ofV ua from rfl, ← ea, show pE (some ua) = 0 from rfl]
      clear ea eb
      unfold vV
      have hZq := Bk.new wq 35 #[.int .i64 0, .complex .f64 0 0, .bool false, .slice none 0 0]
      clear hpq hpt
      go_upto_region 13 with (refine wpList_storeN rfl 35 (.tmp 15) (.tmp 78) rfl wq.heap.size 0 [.int .i64 qa.rv.t, .complex .f64 qa.rv.z.1 qa.rv.z.2, .bool qa.rv.r, .slice xp qa.rv.zs.length yp] rfl rfl hZq (Nat.le_refl 4) Tryz.infoV (one4 _ _ _ _ _ _ _) ?_; intro wA M3 hOA)
      have bqA : Below wq.heap.size wq wA := (below_alloc wq _).trans (hOA.below (Nat.le_refl _))
      have b9A := Below.thn hbq bqA
      have bA := Below.thn b9 b9A
      replace M1 : Q6 wA w.heap.size a1 c1 qa := Bk.up M1 b9A
      replace M2 : Q6 wA (w.heap.size + 1) a2 c2 qb := Bk.up M2 b9A
      replace K1 := K1.up b9A
      replace K2 := K2.up b9A
      have VP := hvq.up bqA
      have hpb : ∃ pb, pb = wq.heap.size := ⟨_, rfl⟩
      obtain ⟨pb, hpb⟩ := hpb
      rw [← hpb] at M3 ⊢
      clear hpb hvq hOA hZq bqA b9A hbq b9 hua hub sa sb
      have hlt1 := Bk.lt M1
      have hlt2 := Bk.lt M2
      have hlt3 := Bk.lt M3
      have hSS : ∀ X, Below wA.heap.size wA X → X.cell? ⟨w.heap.size, 0, none⟩ = some (.int .i64 qa.t) ∧ X.cell? ⟨w.heap.size, 1, none⟩ = some (.int .i64 qa.z.x) ∧ X.cell? ⟨w.heap.size, 2, none⟩ = some (.int .i64 qa.z.y) ∧ X.cell? ⟨w.heap.size, 3, none⟩ = some (.bool qa.z.r) ∧ X.cell? ⟨w.heap.size, 4, none⟩ = some (.bool qa.b) ∧ X.cell? ⟨w.heap.size, 5, none⟩ = some (.slice a1 qa.l.length c1) ∧ X.cell? ⟨w.heap.size + 1, 0, none⟩ = some (.int .i64 qb.t) ∧ X.cell? ⟨w.heap.size + 1, 1, none⟩ = some (.int .i64 qb.z.x) ∧ X.cell? ⟨w.heap.size + 1, 2, none⟩ = some (.int .i64 qb.z.y) ∧ X.cell? ⟨w.heap.size + 1, 3, none⟩ = some (.bool qb.z.r) ∧ X.cell? ⟨w.heap.size + 1, 4, none⟩ = some (.bool qb.b) ∧ X.cell? ⟨w.heap.size + 1, 5, none⟩ = some (.slice a2 qb.l.length c2) ∧ X.cell? ⟨pb, 0, none⟩ = some (.int .i64 qa.rv.t) ∧ X.cell? ⟨pb, 1, none⟩ = some (.complex .f64 qa.rv.z.1 qa.rv.z.2) ∧ X.cell? ⟨pb, 2, none⟩ = some (.bool qa.rv.r) ∧ X.cell? ⟨pb, 3, none⟩ = some (.slice xp qa.rv.zs.length yp) := by
        intro X hX
        obtain ⟨u0, u1, u2, u3, u4, u5⟩ := M1.cells
        obtain ⟨z0, z1, z2, z3, z4, z5⟩ := M2.cells
        have y0 := M3.cell 0; have y1 := M3.cell 1; have y2 := M3.cell 2; have y3 := M3.cell 3
        exact ⟨(hX.cell hlt1).trans u0, (hX.cell hlt1).trans u1, (hX.cell hlt1).trans u2, (hX.cell hlt1).trans u3, (hX.cell hlt1).trans u4, (hX.cell hlt1).trans u5, (hX.cell hlt2).trans z0, (hX.cell hlt2).trans z1, (hX.cell hlt2).trans z2, (hX.cell hlt2).trans z3, (hX.cell hlt2).trans z4, (hX.cell hlt2).trans z5, (hX.cell hlt3).trans y0, (hX.cell hlt3).trans y1, (hX.cell hlt3).trans y2, (hX.cell hlt3).trans y3⟩
      have HS : Hid (∀ X, Below wA.heap.size wA X → X.cell? ⟨w.heap.size, 0, none⟩ = some (.int .i64 qa.t) ∧ X.cell? ⟨w.heap.size, 1, none⟩ = some (.int .i64 qa.z.x) ∧ X.cell? ⟨w.heap.size, 2, none⟩ = some (.int .i64 qa.z.y) ∧ X.cell? ⟨w.heap.size, 3, none⟩ = some (.bool qa.z.r) ∧ X.cell? ⟨w.heap.size, 4, none⟩ = some (.bool qa.b) ∧ X.cell? ⟨w.heap.size, 5, none⟩ = some (.slice a1 qa.l.length c1) ∧ X.cell? ⟨w.heap.size + 1, 0, none⟩ = some (.int .i64 qb.t) ∧ X.cell? ⟨w.heap.size + 1, 1, none⟩ = some (.int .i64 qb.z.x) ∧ X.cell? ⟨w.heap.size + 1, 2, none⟩ = some (.int .i64 qb.z.y) ∧ X.cell? ⟨w.heap.size + 1, 3, none⟩ = some (.bool qb.z.r) ∧ X.cell? ⟨w.heap.size + 1, 4, none⟩ = some (.bool qb.b) ∧ X.cell? ⟨w.heap.size + 1, 5, none⟩ = some (.slice a2 qb.l.length c2) ∧ X.cell? ⟨pb, 0, none⟩ = some (.int .i64 qa.rv.t) ∧ X.cell? ⟨pb, 1, none⟩ = some (.complex .f64 qa.rv.z.1 qa.rv.z.2) ∧ X.cell? ⟨pb, 2, none⟩ = some (.bool qa.rv.r) ∧ X.cell? ⟨pb, 3, none⟩ = some (.slice xp qa.rv.zs.length yp)) := hSS
      have s4 := hSS wA (Below.refl _ _)
      have bD := (Below.refl wA.heap.size wA).drew
      have sD := hSS wA.drew bD
      clear hSS
      cases hsx : ((bs ta).toList == (bs tb).toList) with
      | true =>
        rw [hsx] at hsab hsba
        first | (go_region_held3 (fun X => X.cell? ⟨w.heap.size, 0, none⟩ = some (.int .i64 qa.t) ∧ X.cell? ⟨w.heap.size, 1, none⟩ = some (.int .i64 qa.z.x) ∧ X.cell? ⟨w.heap.size, 2, none⟩ = some (.int .i64 qa.z.y) ∧ X.cell? ⟨w.heap.size, 3, none⟩ = some (.bool qa.z.r) ∧ X.cell? ⟨w.heap.size, 4, none⟩ = some (.bool qa.b) ∧ X.cell? ⟨w.heap.size, 5, none⟩ = some (.slice a1 qa.l.length c1) ∧ X.cell? ⟨w.heap.size + 1, 0, none⟩ = some (.int .i64 qb.t) ∧ X.cell? ⟨w.heap.size + 1, 1, none⟩ = some (.int .i64 qb.z.x) ∧ X.cell? ⟨w.heap.size + 1, 2, none⟩ = some (.int .i64 qb.z.y) ∧ X.cell? ⟨w.heap.size + 1, 3, none⟩ = some (.bool qb.z.r) ∧ X.cell? ⟨w.heap.size + 1, 4, none⟩ = some (.bool qb.b) ∧ X.cell? ⟨w.heap.size + 1, 5, none⟩ = some (.slice a2 qb.l.length c2) ∧ X.cell? ⟨pb, 0, none⟩ = some (.int .i64 qa.rv.t) ∧ X.cell? ⟨pb, 1, none⟩ = some (.complex .f64 qa.rv.z.1 qa.rv.z.2) ∧ X.cell? ⟨pb, 2, none⟩ = some (.bool qa.rv.r) ∧ X.cell? ⟨pb, 3, none⟩ = some (.slice xp qa.rv.zs.length yp))
          (first | (with_reducible exact sD) | (with_reducible exact s4) | (with_reducible exact sa) | (with_reducible exact sb) | (with_reducible exact sc) | (with_reducible exact sd) | (with_reducible exact se) | (with_reducible exact sf) | (with_reducible exact sg) | (with_reducible exact sh) | (with_reducible exact si) | (with_reducible exact sj) | (with_reducible exact sk)) (first
          | (go_at_call 14; (with_reducible refine Calls.mono (hsab xi yi xj yj _ vij vj) ?_); rintro e wk ⟨rfl, hbk⟩; have bk := Below.thn bj hbk; have sk := HS.out wk bk)
          | (go_at_call 10; (with_reducible refine Calls.mono (hV2 _ (K2.up bi)) ?_); rintro e wj ⟨xj, yj, rfl, vj, hbj⟩; have bj := Below.thn bi hbj; have sj := HS.out wj bj; have vij := vi.up hbj)
          | (go_at_call 10; (with_reducible refine Calls.mono (hV1 _ (K1.up bh)) ?_); rintro e wi ⟨xi, yi, rfl, vi, hbi⟩; have bi := Below.thn bh hbi; have si := HS.out wi bi)
          | (go_at_call 14; (with_reducible refine Calls.mono (hsba xf yf xg yg _ vfg vg) ?_); rintro e wh ⟨rfl, hbh⟩; have bh := Below.thn bg hbh; have sh := HS.out wh bh)
          | (go_at_call 10; (with_reducible refine Calls.mono (hV1 _ (K1.up bf)) ?_); rintro e wg ⟨xg, yg, rfl, vg, hbg⟩; have bg := Below.thn bf hbg; have sg := HS.out wg bg; have vfg := vf.up hbg)
          | (go_at_call 10; (with_reducible refine Calls.mono (hV2 _ (K2.up be)) ?_); rintro e wf ⟨xf, yf, rfl, vf, hbf⟩; have bf := Below.thn be hbf; have sf := HS.out wf bf)
          | (go_at_call 14; (with_reducible refine Calls.mono (hsab xc yc xd yd _ vcd vd) ?_); rintro e we ⟨rfl, hbe⟩; have be := Below.thn bd hbe; have se := HS.out we be)
          | (go_at_call 10; (with_reducible refine Calls.mono (hV2 _ (K2.up bc)) ?_); rintro e wd ⟨xd, yd, rfl, vd, hbd⟩; have bd := Below.thn bc hbd; have sd := HS.out wd bd; have vcd := vc.up hbd)
          | (go_at_call 10; (with_reducible refine Calls.mono (hV1 _ (K1.up bb)) ?_); rintro e wc ⟨xc, yc, rfl, vc, hbc⟩; have bc := Below.thn bb hbc; have sc := HS.out wc bc)
          | (go_at_call 14; (with_reducible refine Calls.mono (hsva xp yp xa ya _ (VP.up ba) va) ?_); rintro e wb ⟨rfl, hbb⟩; have bb := Below.thn ba hbb; have sb := HS.out wb bb)
          | (go_at_call 10; (with_reducible refine Calls.mono (hV1 _ (K1.up bD)) ?_); rintro e wa ⟨xa, ya, rfl, va, hba⟩; have ba := Below.thn bD hba; have sa := HS.out wa ba)
          | fail)) | fail
        all_goals
          go_wp2_with fail
          go_ret
          exact ⟨rfl, Below.thn bA bk⟩
      | false =>
        rw [hsx] at hsab hsba
        first | (go_region_held3 (fun X => X.cell? ⟨w.heap.size, 0, none⟩ = some (.int .i64 qa.t) ∧ X.cell? ⟨w.heap.size, 1, none⟩ = some (.int .i64 qa.z.x) ∧ X.cell? ⟨w.heap.size, 2, none⟩ = some (.int .i64 qa.z.y) ∧ X.cell? ⟨w.heap.size, 3, none⟩ = some (.bool qa.z.r) ∧ X.cell? ⟨w.heap.size, 4, none⟩ = some (.bool qa.b) ∧ X.cell? ⟨w.heap.size, 5, none⟩ = some (.slice a1 qa.l.length c1) ∧ X.cell? ⟨w.heap.size + 1, 0, none⟩ = some (.int .i64 qb.t) ∧ X.cell? ⟨w.heap.size + 1, 1, none⟩ = some (.int .i64 qb.z.x) ∧ X.cell? ⟨w.heap.size + 1, 2, none⟩ = some (.int .i64 qb.z.y) ∧ X.cell? ⟨w.heap.size + 1, 3, none⟩ = some (.bool qb.z.r) ∧ X.cell? ⟨w.heap.size + 1, 4, none⟩ = some (.bool qb.b) ∧ X.cell? ⟨w.heap.size + 1, 5, none⟩ = some (.slice a2 qb.l.length c2) ∧ X.cell? ⟨pb, 0, none⟩ = some (.int .i64 qa.rv.t) ∧ X.cell? ⟨pb, 1, none⟩ = some (.complex .f64 qa.rv.z.1 qa.rv.z.2) ∧ X.cell? ⟨pb, 2, none⟩ = some (.bool qa.rv.r) ∧ X.cell? ⟨pb, 3, none⟩ = some (.slice xp qa.rv.zs.length yp))
          (first | (with_reducible exact sD) | (with_reducible exact s4) | (with_reducible exact sa) | (with_reducible exact sb) | (with_reducible exact sc) | (with_reducible exact sd) | (with_reducible exact se) | (with_reducible exact sf) | (with_reducible exact sg) | (with_reducible exact sh) | (with_reducible exact si) | (with_reducible exact sj) | (with_reducible exact sk)) (first
          | (go_at_call 14; (with_reducible refine Calls.mono (hsab xi yi xj yj _ vij vj) ?_); rintro e wk ⟨rfl, hbk⟩; have bk := Below.thn bj hbk; have sk := HS.out wk bk)
          | (go_at_call 10; (with_reducible refine Calls.mono (hV2 _ (K2.up bi)) ?_); rintro e wj ⟨xj, yj, rfl, vj, hbj⟩; have bj := Below.thn bi hbj; have sj := HS.out wj bj; have vij := vi.up hbj)
          | (go_at_call 10; (with_reducible refine Calls.mono (hV1 _ (K1.up bh)) ?_); rintro e wi ⟨xi, yi, rfl, vi, hbi⟩; have bi := Below.thn bh hbi; have si := HS.out wi bi)
          | (go_at_call 14; (with_reducible refine Calls.mono (hsba xf yf xg yg _ vfg vg) ?_); rintro e wh ⟨rfl, hbh⟩; have bh := Below.thn bg hbh; have sh := HS.out wh bh)
          | (go_at_call 10; (with_reducible refine Calls.mono (hV1 _ (K1.up bf)) ?_); rintro e wg ⟨xg, yg, rfl, vg, hbg⟩; have bg := Below.thn bf hbg; have sg := HS.out wg bg; have vfg := vf.up hbg)
          | (go_at_call 10; (with_reducible refine Calls.mono (hV2 _ (K2.up be)) ?_); rintro e wf ⟨xf, yf, rfl, vf, hbf⟩; have bf := Below.thn be hbf; have sf := HS.out wf bf)
          | (go_at_call 14; (with_reducible refine Calls.mono (hsab xc yc xd yd _ vcd vd) ?_); rintro e we ⟨rfl, hbe⟩; have be := Below.thn bd hbe; have se := HS.out we be)
          | (go_at_call 10; (with_reducible refine Calls.mono (hV2 _ (K2.up bc)) ?_); rintro e wd ⟨xd, yd, rfl, vd, hbd⟩; have bd := Below.thn bc hbd; have sd := HS.out wd bd; have vcd := vc.up hbd)
          | (go_at_call 10; (with_reducible refine Calls.mono (hV1 _ (K1.up bb)) ?_); rintro e wc ⟨xc, yc, rfl, vc, hbc⟩; have bc := Below.thn bb hbc; have sc := HS.out wc bc)
          | (go_at_call 14; (with_reducible refine Calls.mono (hsva xp yp xa ya _ (VP.up ba) va) ?_); rintro e wb ⟨rfl, hbb⟩; have bb := Below.thn ba hbb; have sb := HS.out wb bb)
          | (go_at_call 10; (with_reducible refine Calls.mono (hV1 _ (K1.up bD)) ?_); rintro e wa ⟨xa, ya, rfl, va, hba⟩; have ba := Below.thn bD hba; have sa := HS.out wa ba)
          | fail)) | fail
        all_goals
          go_wp2_with fail
          go_ret
          exact ⟨rfl, Below.thn bA bk⟩
    · have hsm : sameV qa.rv qb.rv = false := by
        unfold sameV
        rw [Bool.and_eq_false_iff]
        left
        rw [Bool.and_eq_false_iff]
        by_cases sa : soundV qa.rv = true
        · right
          by_cases sb : soundV qb.rv = true
          · exact absurd ⟨sa, sb⟩ hoth
          · simpa using sb
        · left; simpa using sa
      rw [hsm] at hsab
      have hk : (¬ ka = 0) ∨ (ka = 0 ∧ (kb != 0) = true) := by
        by_cases sa : soundV qa.rv = true
        · right
          have sb : soundV qb.rv = false := by
            by_cases sb : soundV qb.rv = true
            · exact absurd ⟨sa, sb⟩ hoth
            · simpa using sb
          rw [hka.out, hkb.out, sa, sb]; exact ⟨rfl, rfl⟩
        · left
          have sa' : soundV qa.rv = false := by simpa using sa
          rw [hka.out, sa']; decide
      clear hka hkb HTA HTB HA HB hsm hoth m1 m2 k1 k2 hsba hsva
      have hlt1 := Bk.lt M1
      have hlt2 := Bk.lt M2
      have hSS : ∀ X, Below w9.heap.size w9 X → X.cell? ⟨w.heap.size, 0, none⟩ = some (.int .i64 qa.t) ∧ X.cell? ⟨w.heap.size, 1, none⟩ = some (.int .i64 qa.z.x) ∧ X.cell? ⟨w.heap.size, 2, none⟩ = some (.int .i64 qa.z.y) ∧ X.cell? ⟨w.heap.size, 3, none⟩ = some (.bool qa.z.r) ∧ X.cell? ⟨w.heap.size, 4, none⟩ = some (.bool qa.b) ∧ X.cell? ⟨w.heap.size, 5, none⟩ = some (.slice a1 qa.l.length c1) ∧ X.cell? ⟨w.heap.size + 1, 0, none⟩ = some (.int .i64 qb.t) ∧ X.cell? ⟨w.heap.size + 1, 1, none⟩ = some (.int .i64 qb.z.x) ∧ X.cell? ⟨w.heap.size + 1, 2, none⟩ = some (.int .i64 qb.z.y) ∧ X.cell? ⟨w.heap.size + 1, 3, none⟩ = some (.bool qb.z.r) ∧ X.cell? ⟨w.heap.size + 1, 4, none⟩ = some (.bool qb.b) ∧ X.cell? ⟨w.heap.size + 1, 5, none⟩ = some (.slice a2 qb.l.length c2) := by
        intro X hX
        obtain ⟨u0, u1, u2, u3, u4, u5⟩ := M1.cells
        obtain ⟨z0, z1, z2, z3, z4, z5⟩ := M2.cells
        exact ⟨(hX.cell hlt1).trans u0, (hX.cell hlt1).trans u1, (hX.cell hlt1).trans u2, (hX.cell hlt1).trans u3, (hX.cell hlt1).trans u4, (hX.cell hlt1).trans u5, (hX.cell hlt2).trans z0, (hX.cell hlt2).trans z1, (hX.cell hlt2).trans z2, (hX.cell hlt2).trans z3, (hX.cell hlt2).trans z4, (hX.cell hlt2).trans z5⟩
      have HS : Hid (∀ X, Below w9.heap.size w9 X → X.cell? ⟨w.heap.size, 0, none⟩ = some (.int .i64 qa.t) ∧ X.cell? ⟨w.heap.size, 1, none⟩ = some (.int .i64 qa.z.x) ∧ X.cell? ⟨w.heap.size, 2, none⟩ = some (.int .i64 qa.z.y) ∧ X.cell? ⟨w.heap.size, 3, none⟩ = some (.bool qa.z.r) ∧ X.cell? ⟨w.heap.size, 4, none⟩ = some (.bool qa.b) ∧ X.cell? ⟨w.heap.size, 5, none⟩ = some (.slice a1 qa.l.length c1) ∧ X.cell? ⟨w.heap.size + 1, 0, none⟩ = some (.int .i64 qb.t) ∧ X.cell? ⟨w.heap.size + 1, 1, none⟩ = some (.int .i64 qb.z.x) ∧ X.cell? ⟨w.heap.size + 1, 2, none⟩ = some (.int .i64 qb.z.y) ∧ X.cell? ⟨w.heap.size + 1, 3, none⟩ = some (.bool qb.z.r) ∧ X.cell? ⟨w.heap.size + 1, 4, none⟩ = some (.bool qb.b) ∧ X.cell? ⟨w.heap.size + 1, 5, none⟩ = some (.slice a2 qb.l.length c2)) := hSS
      have s4 := hSS w9 (Below.refl _ _)
      have bD := (Below.refl w9.heap.size w9).drew
      have sD := hSS w9.drew bD
      clear hSS
      rcases hk with hk | ⟨rfl, hk2⟩
      all_goals
        go_upto_region 11 with fail
        first | (go_region_held3 (fun X => X.cell? ⟨w.heap.size, 0, none⟩ = some (.int .i64 qa.t) ∧ X.cell? ⟨w.heap.size, 1, none⟩ = some (.int .i64 qa.z.x) ∧ X.cell? ⟨w.heap.size, 2, none⟩ = some (.int .i64 qa.z.y) ∧ X.cell? ⟨w.heap.size, 3, none⟩ = some (.bool qa.z.r) ∧ X.cell? ⟨w.heap.size, 4, none⟩ = some (.bool qa.b) ∧ X.cell? ⟨w.heap.size, 5, none⟩ = some (.slice a1 qa.l.length c1) ∧ X.cell? ⟨w.heap.size + 1, 0, none⟩ = some (.int .i64 qb.t) ∧ X.cell? ⟨w.heap.size + 1, 1, none⟩ = some (.int .i64 qb.z.x) ∧ X.cell? ⟨w.heap.size + 1, 2, none⟩ = some (.int .i64 qb.z.y) ∧ X.cell? ⟨w.heap.size + 1, 3, none⟩ = some (.bool qb.z.r) ∧ X.cell? ⟨w.heap.size + 1, 4, none⟩ = some (.bool qb.b) ∧ X.cell? ⟨w.heap.size + 1, 5, none⟩ = some (.slice a2 qb.l.length c2))
          (first | (with_reducible exact sD) | (with_reducible exact s4) | (with_reducible exact sa) | (with_reducible exact sb) | (with_reducible exact sc) | (with_reducible exact sd) | (with_reducible exact se)) (first
          | (go_at_call 14; (with_reducible refine Calls.mono (hsab xc yc xd yd _ vcd vd) ?_); rintro e we ⟨rfl, hbe⟩; have be := Below.thn bd hbe; have se := HS.out we be)
          | (go_at_call 10; (with_reducible refine Calls.mono (hV2 _ (K2.up bc)) ?_); rintro e wd ⟨xd, yd, rfl, vd, hbd⟩; have bd := Below.thn bc hbd; have sd := HS.out wd bd; have vcd := vc.up hbd)
          | (go_at_call 10; (with_reducible refine Calls.mono (hV1 _ (K1.up bb)) ?_); rintro e wc ⟨xc, yc, rfl, vc, hbc⟩; have bc := Below.thn bb hbc; have sc := HS.out wc bc)
          | (go_at_call 13; (with_reducible refine Calls.mono (hcka xa ya _ va) ?_); rintro e wb ⟨rfl, hbb⟩; have bb := Below.thn ba hbb; have sb := HS.out wb bb)
          | (go_at_call 10; (with_reducible refine Calls.mono (hV1 _ (K1.up bD)) ?_); rintro e wa ⟨xa, ya, rfl, va, hba⟩; have ba := Below.thn bD hba; have sa := HS.out wa ba)
          | fail)) | fail
        all_goals
          go_wp2_with fail
          go_ret
          exact ⟨rfl, Below.thn b9 be⟩
end Go.Proofs.YtbgggbkmnfppoaaGreatDoor
