/-
  The walk of definition.
-/
import Derived.Test.YtndgglhppoijnaaGreatDoorUL
import Derived.Deep.DeepCutAuto
import Derived.Deep.RegionWith
namespace Go.Proofs.YtndgglhppoijnaaGreatDoor
open Go.RowKit
set_option maxRecDepth 100000

abbrev fz : Array Value := #[.string ⟨#[]⟩, .slice none 0 0, .int .i64 0, .int .i64 0, .string ⟨#[]⟩, .string ⟨#[]⟩, .int .i64 0, .complex .f64 0 0, .slice none 0 0, .int .i64 0, .int .i64 0]
theorem Tryz.infoFn : (Tryz.prog.info? 43).map (·.size) = some 11 := by kernel_rfl
theorem Tryz.underFn : Tryz.prog.underlying 43 = some (.struct (Tryz.prog.underlying 43 |>.map (fun | .struct f => f | _ => #[]) |>.getD #[])) := by kernel_rfl

/-- These eleven cells are the definition, its parts in memory, in blocks of which A holds. -/
def FnW (w : World) (A : Nat → Prop) (g : Fn1) (vs : List Value) : Prop :=
  ∃ ao c es, vs = .string (bs g.name) :: .slice ao g.pms.length c :: .int .i64 g.ty :: (es ++ [.int .i64 g.pos]) ∧ PlW w A ao g.pms ∧ ExW w A g.body es
def fnV (B : Nat) (w : World) (g : Fn1) (v : Value) : Prop := ∃ vs, v = .agg vs.toArray ∧ FnW w (fun b => B ≤ b) g vs

theorem Bk.eleven {w : World} {b : Nat} {t : TypeId} {x0 x1 x2 x3 x4 x5 x6 x7 x8 x9 x10 : Value} (h : Bk w b t [x0, x1, x2, x3, x4, x5, x6, x7, x8, x9, x10]) :
    w.cell? ⟨b, 0, none⟩ = some x0 ∧ w.cell? ⟨b, 1, none⟩ = some x1 ∧ w.cell? ⟨b, 2, none⟩ = some x2 ∧ w.cell? ⟨b, 3, none⟩ = some x3 ∧ w.cell? ⟨b, 4, none⟩ = some x4 ∧ w.cell? ⟨b, 5, none⟩ = some x5 ∧ w.cell? ⟨b, 6, none⟩ = some x6 ∧ w.cell? ⟨b, 7, none⟩ = some x7 ∧ w.cell? ⟨b, 8, none⟩ = some x8 ∧ w.cell? ⟨b, 9, none⟩ = some x9 ∧ w.cell? ⟨b, 10, none⟩ = some x10 :=
  ⟨h.cell 0, h.cell 1, h.cell 2, h.cell 3, h.cell 4, h.cell 5, h.cell 6, h.cell 7, h.cell 8, h.cell 9, h.cell 10⟩
theorem Bk.frz11 {w : World} {b : Nat} {t : TypeId} {vs : List Value} (h : Bk w b t vs) :
    w.frozen? ⟨b, 0, none⟩ = false ∧ w.frozen? ⟨b, 1, none⟩ = false ∧ w.frozen? ⟨b, 2, none⟩ = false ∧ w.frozen? ⟨b, 3, none⟩ = false ∧ w.frozen? ⟨b, 4, none⟩ = false ∧ w.frozen? ⟨b, 5, none⟩ = false ∧ w.frozen? ⟨b, 6, none⟩ = false ∧ w.frozen? ⟨b, 7, none⟩ = false ∧ w.frozen? ⟨b, 8, none⟩ = false ∧ w.frozen? ⟨b, 9, none⟩ = false ∧ w.frozen? ⟨b, 10, none⟩ = false :=
  ⟨h.frz 0, h.frz 1, h.frz 2, h.frz 3, h.frz 4, h.frz 5, h.frz 6, h.frz 7, h.frz 8, h.frz 9, h.frz 10⟩

set_option maxHeartbeats 8000000 in
theorem def_any (I : Rdi) (hE : Ends I.M I.n) (f num : Nat) (w : World) (R k : Nat) (h : Rdr I w R k 0) (hne : defP I.M (lmOf I) f num k ≠ .out) :
    Calls Tryz.prog 32 #[.pointer (some ⟨R, 0, none⟩), .int .i64 ((num + 1 : Nat) : Int)] w fun e w' => Ans I R 0 w (fnV w.heap.size) (defP I.M (lmOf I) f num k) e w' := by
  obtain ⟨r, hr⟩ : ∃ r, r = defP I.M (lmOf I) f num k := ⟨_, rfl⟩
  rw [← hr] at hne ⊢
  unfold defP at hr
  have HR : Hid (r = (nameOfP I.M num I.lf k).bind fun x k1 => (paramsP I.M (lmOf I) f k1).bind fun ps k2 => (mustP I.M [58] k2).bind fun _ k3 => (typeP I.M k3).bind fun t k4 => (mustP I.M [61] k4).bind fun _ k5 =>
    (exprP I.M (lmOf I) f 0 k5).bind fun b k6 => (mustP I.M [59] k6).bind fun _ k7 => .ok ⟨x.text, ps, t, b, x.at_⟩ k7) := hr
  clear hr
  have hB0 := Bk.new w 43 fz
  have hlt := h.lt
  have hb0 := below_alloc w (.cells fz 43)
  have h1 := h.up hb0
  have hU1 := bel_but hb0 R
  have c3 : (w.alloc (.cells fz 43)).cell? ⟨R, 3, none⟩ = some (.int .i64 I.lf) := h1.blk.cell 3
  go_enter Tryz.func32, Tryz.ntmps32
  go_wp2_with fail
  have hno := nameOf_any I hE num I.lf _ R k 0 h1
  refine hno.mono ?_
  rintro e w2 ⟨hV2, ha⟩
  cases hq2 : nameOfP I.M num I.lf k with
  | out => exact absurd hq2 (nameOf_ne _ _ _ _)
  | bad y j =>
    clear hno
    rw [hq2] at ha
    rw [show e = _ from ha]
    have HR := bind_bad HR hq2
    clear ha hq2
    unfold gaveUp
    go_wp2
    exact ⟨rfl, ans_bad HR (hU1.trans hV2) rfl⟩
  | ok m k1 =>
    rw [hq2] at ha
    obtain ⟨⟨v, rfl, hv⟩, h2⟩ := ha
    obtain rfl : v = mkV m := hv
    have HR := bind_ok HR hq2
    clear hq2 hno
    unfold mkV
    have hU2 := hU1.trans hV2
    have hB2 := hB0.but hV2 (by omega)
    have hl2 := hB2.lt
    have hL := Bk.new w2 85 mz
    go_upto_region 2 with (refine wpList_storeN rfl 85 (.tmp 5) (.tmp 14) rfl w2.heap.size 0 (mkC m) rfl rfl hL (Nat.le_refl 4) Tryz.infoM (mkC_one _) ?_; intro w3 hM3 ho3)
    have hb3 := (below_alloc w2 (.cells mz 85)).trans (ho3.below (Nat.le_refl _))
    have h3 := h2.up hb3
    have hU3 := hU2.then hb3
    have hB3 := hB2.up hb3
    have hL3 : Bk w3 w2.heap.size 85 [.int .i64 m.kind, .string (bs m.text), .complex .f64 (fl m.p) (fl m.q), .int .i64 m.at_] := hM3
    obtain ⟨gM, hgM⟩ : ∃ gM, gM = w2.heap.size := ⟨_, rfl⟩
    rw [← hgM] at hL3 hl2 ⊢
    have s1 := hL3.four.2.1
    have s3 := hL3.four.2.2.2
    have hl3 := hL3.lt
    have hn4 := bind_ne HR hne
    have hcx := store_cx
    clear hM3 hL hB0 hB2 h1 h2 c3 ho3 hb3 hgM hU2 hV2
    have hbz := below_alloc w3 (.cells fz 43)
    have hp1 := params_any I hE f (World.drew w3) R k1 0 (h3.up (Below.refl _ w3).drew) hn4
    have hp2 := params_any I hE f (World.drew (w3.alloc (.cells fz 43))) R k1 0 ((h3.up hbz).up (Below.refl _ _).drew) hn4
    have s1a := (hL3.up hbz).four.2.1
    have s3a := (hL3.up hbz).four.2.2.2
    have hB3d : Bk (World.drew w3) w.heap.size 43 [.string ⟨#[]⟩, .slice none 0 0, .int .i64 0, .int .i64 0, .string ⟨#[]⟩, .string ⟨#[]⟩, .int .i64 0, .complex .f64 0 0, .slice none 0 0, .int .i64 0, .int .i64 0] := hB3
    have hL3d : Bk (World.drew w3) gM 85 [.int .i64 m.kind, .string (bs m.text), .complex .f64 (fl m.p) (fl m.q), .int .i64 m.at_] := hL3
    have hB3a : Bk (World.drew (w3.alloc (.cells fz 43))) w.heap.size 43 [.string ⟨#[]⟩, .slice none 0 0, .int .i64 0, .int .i64 0, .string ⟨#[]⟩, .string ⟨#[]⟩, .int .i64 0, .complex .f64 0 0, .slice none 0 0, .int .i64 0, .int .i64 0] := hB3.up hbz.drew
    have hL3a : Bk (World.drew (w3.alloc (.cells fz 43))) gM 85 [.int .i64 m.kind, .string (bs m.text), .complex .f64 (fl m.p) (fl m.q), .int .i64 m.at_] := hL3.up hbz.drew
    have hF3a : Bk (World.drew (w3.alloc (.cells fz 43))) w3.heap.size 43 [.string ⟨#[]⟩, .slice none 0 0, .int .i64 0, .int .i64 0, .string ⟨#[]⟩, .string ⟨#[]⟩, .int .i64 0, .complex .f64 0 0, .slice none 0 0, .int .i64 0, .int .i64 0] := Bk.new w3 43 fz
    have hU3a : But R w (World.drew (w3.alloc (.cells fz 43))) := (hU3.then hbz).drew
    have hw3s : w.heap.size + 1 ≤ (World.drew w3).heap.size := by show _ ≤ w3.heap.size; omega
    have hgeA : ∀ b, (World.drew (w3.alloc (.cells fz 43))).heap.size ≤ b → w.heap.size + 1 ≤ b ∧ b ≠ w3.heap.size := by
      intro b hb
      have h1 : w3.heap.size + 1 ≤ b := by simpa using hb
      exact ⟨by omega, by omega⟩
    cases hq4 : paramsP I.M (lmOf I) f k1 with
    | out => exact absurd hq4 hn4
    | bad y j =>
      have HR := bind_bad HR hq4
      rw [hq4] at hp1 hp2
      clear hq4
      dsimp only [Act.put]
      go_wp2
      go_region_with (first
        | (go_at_call 48; (with_reducible refine calls_two hp1 (.slice none 0 0) (World.drew (w3.alloc (.cells fz 43))) ?_ ?_); (focus (rintro e w6 ⟨hV6, ha⟩; rw [show e = _ from ha]; unfold gaveUp; exact ⟨rfl, ans_bad HR (hU3.drew.trans hV6) rfl⟩)); intro hF; have HF : Hid False := hF; clear hF; dsimp only)
        | (go_at_call 48; (with_reducible refine calls_two hp2 (.slice none 0 0) (World.drew (w3.alloc (.cells fz 43))) ?_ ?_); (focus (rintro e w6 ⟨hV6, ha⟩; rw [show e = _ from ha]; unfold gaveUp; exact ⟨rfl, ans_bad HR (hU3a.trans hV6) rfl⟩)); intro hF; have HF : Hid False := hF; clear hF; dsimp only))
      all_goals exact (show False from HF).elim
    | ok ps k2 =>
      have HR := bind_ok HR hq4
      rw [hq4] at hp1 hp2
      clear hq4 hn4
      dsimp only [Act.put]
      go_cut [6] (fun v6 wx => ∃ gF ao c, v6 = .pointer (some ⟨gF, 0, none⟩) ∧ w.heap.size < gF ∧ Bk wx gF 43 [.string (bs m.text), .slice ao ps.length c, .int .i64 0, .int .i64 0, .string ⟨#[]⟩, .string ⟨#[]⟩, .int .i64 0, .complex .f64 0 0, .slice none 0 0, .int .i64 0, .int .i64 m.at_] ∧ Hid (PlW wx (fun b => w.heap.size + 1 ≤ b ∧ b ≠ gF) ao ps) ∧ Rdr I wx R k2 0 ∧ But R w wx ∧ Bk wx w.heap.size 43 [.string ⟨#[]⟩, .slice none 0 0, .int .i64 0, .int .i64 0, .string ⟨#[]⟩, .string ⟨#[]⟩, .int .i64 0, .complex .f64 0 0, .slice none 0 0, .int .i64 0, .int .i64 0])
      case first =>
        go_region_with (first
          | (go_at_call 48; (with_reducible refine Calls.mono hp1 ?_); rintro e w4 ⟨hV4, ⟨v, rfl, hv⟩, h4⟩; obtain ⟨ao, c, rfl, hpl⟩ := hv; have hU4 := hU3.drew.trans hV4; have hB4 := Bk.but hB3d hV4 (by omega); have hL4 := Bk.but hL3d hV4 (by omega); have u1 := hL4.four.2.1; have u3 := hL4.four.2.2.2; have ua1 := fun o => (hL4.up (below_alloc w4 o)).four.2.1; have ua3 := fun o => (hL4.up (below_alloc w4 o)).four.2.2.2; have hpl1 : PlW w4 (fun b => w.heap.size + 1 ≤ b ∧ b ≠ w4.heap.size) ao ps := hpl.imp fun b hb hl => ⟨Nat.le_trans hw3s hb, Nat.ne_of_lt hl⟩)
          | (go_at_call 48; (with_reducible refine Calls.mono hp2 ?_); rintro e w4 ⟨hV4, ⟨v, rfl, hv⟩, h4⟩; obtain ⟨ao, c, rfl, hpl⟩ := hv; have hU4 := hU3a.trans hV4; have hB4 := Bk.but hB3a hV4 (by omega); have hL4 := Bk.but hL3a hV4 (by omega); have u1 := hL4.four.2.1; have u3 := hL4.four.2.2.2; have hF4 := Bk.but hF3a hV4 (by omega); obtain ⟨z0, z1, z2, z3, z4, z5, z6, z7, z8, z9, z10⟩ := Bk.eleven hF4; obtain ⟨v0, v1, v2, v3, v4, v5, v6, v7, v8, v9, v10⟩ := hF4.frz11; have hpl2 : PlW w4 (fun b => w.heap.size + 1 ≤ b ∧ b ≠ w3.heap.size) ao ps := hpl.imp fun b hb _ => hgeA b hb))
        all_goals
          go_wp2_with fail
          go_meet
          case rel =>
            first
              | (have hS := Bk.sets [.string (bs m.text), .slice ao ps.length c, .int .i64 0, .int .i64 0, .string ⟨#[]⟩, .string ⟨#[]⟩, .int .i64 0, .complex .f64 0 0, .slice none 0 0, .int .i64 0, .int .i64 m.at_] hF4 0; exact ⟨w3.heap.size, ao, c, rfl, by omega, hS.1, hpl2.keep (Nat.le_of_eq hS.2.size.symm) (fun b hb _ => hS.2.block b hb.2), h4.oth hS.2 (by omega) (by omega), hS.2.but hU4 (by omega), hB4.oth hS.2 (by omega)⟩)
              | exact ⟨w4.heap.size, ao, c, rfl, hB4.lt, Bk.new w4 43 #[.string (bs m.text), .slice ao ps.length c, .int .i64 0, .int .i64 0, .string ⟨#[]⟩, .string ⟨#[]⟩, .int .i64 0, .complex .f64 0 0, .slice none 0 0, .int .i64 0, .int .i64 m.at_], hpl1.keep (below_alloc w4 _).size (fun b _ hl => (below_alloc w4 _).block b hl), h4.up (below_alloc w4 _), hU4.then (below_alloc w4 _), hB4.up (below_alloc w4 _)⟩
      case rest =>
        obtain ⟨gF, ao, c, rfl, hgF, hF, HP, h5, hU5, hB5⟩ := hcut
        generalize wc = w5 at *
        clear hp1 hp2 s1 s3 s1a s3a hB3d hL3d hB3a hL3a hF3a hU3a hbz h3 hU3 hB3 hL3
        have hlF := hF.lt
        go_wp2_with fail
        refine (must_any I hE [58] (by decide) w5 R k2 0 h5).mono ?_
        rintro e w6 ⟨hV6, ha⟩
        cases hq6 : mustP I.M [58] k2 with
        | out => exact absurd hq6 (must_ne _ _ _)
        | bad y j =>
          rw [hq6] at ha
          rw [show e = _ from ha]
          have HR := bind_bad HR hq6
          clear ha hq6
          unfold gaveUp
          go_wp2
          exact ⟨rfl, ans_bad HR (hU5.trans hV6) rfl⟩
        | ok _ k3 =>
          rw [hq6] at ha
          obtain ⟨⟨v, rfl, hv⟩, h6⟩ := ha
          subst hv
          have HR := bind_ok HR hq6
          clear hq6
          have hU6 := hU5.trans hV6
          have hF6 := hF.but hV6 (by omega)
          have hB6 := hB5.but hV6 (by omega)
          have HP6 : Hid (PlW w6 (fun b => w.heap.size + 1 ≤ b ∧ b ≠ gF) ao ps) := PlW.keep (show PlW w5 _ ao ps from HP) hV6.size fun b hb hl => hV6.block b hl (by omega)
          clear HP hF hB5 h5
          go_wp2_with fail
          refine (type_any I hE w6 R k3 0 h6).mono ?_
          rintro e w7 ⟨hV7, ha⟩
          cases hq7 : typeP I.M k3 with
          | out => exact absurd hq7 (type_ne2 _ _)
          | bad y j =>
            rw [hq7] at ha
            rw [show e = _ from ha]
            have HR := bind_bad HR hq7
            clear ha hq7
            unfold gaveUp
            go_wp2
            exact ⟨rfl, ans_bad HR (hU6.trans hV7) rfl⟩
          | ok t k4 =>
            rw [hq7] at ha
            obtain ⟨⟨v, rfl, hv⟩, h7⟩ := ha
            obtain rfl : v = .int .i64 t := hv
            have HR := bind_ok HR hq7
            clear hq7
            have hU7 := hU6.trans hV7
            have hF7 := hF6.but hV7 (by omega)
            have hB7 := hB6.but hV7 (by omega)
            have z2 := hF7.eleven.2.2.1
            have y2 := hF7.frz 2
            have O2 := (Oth.refl gF w7).set 2 (.int .i64 t)
            have hF8 : Bk (w7.setCell ⟨gF, 2, none⟩ (.int .i64 t)) gF 43 [.string (bs m.text), .slice ao ps.length c, .int .i64 t, .int .i64 0, .string ⟨#[]⟩, .string ⟨#[]⟩, .int .i64 0, .complex .f64 0 0, .slice none 0 0, .int .i64 0, .int .i64 m.at_] := hF7.set 2 (.int .i64 t)
            have h8 := h7.oth O2 (by omega) (by omega)
            have hU8 := O2.but hU7 (by omega)
            have hB8 := hB7.oth O2 (by omega)
            have HP8 : Hid (PlW (w7.setCell ⟨gF, 2, none⟩ (.int .i64 t)) (fun b => w.heap.size + 1 ≤ b ∧ b ≠ gF) ao ps) := (PlW.keep (show PlW w6 _ ao ps from HP6) hV7.size fun b hb hl => hV7.block b hl (by omega)).keep (Nat.le_of_eq O2.size.symm) fun b hb _ => O2.block b hb.2
            clear HP6 hF6 hB6 h6 hV6
            go_wp2_with fail
            obtain ⟨w8, hw8⟩ : ∃ w8, w8 = w7.setCell ⟨gF, 2, none⟩ (.int .i64 t) := ⟨_, rfl⟩
            rw [← hw8] at hF8 h8 hU8 hB8 HP8 ⊢
            clear hw8 O2 z2 y2 hF7 hB7 h7 hU7
            refine (must_any I hE [61] (by decide) w8 R k4 0 h8).mono ?_
            rintro e w9 ⟨hV9, ha⟩
            cases hq9 : mustP I.M [61] k4 with
            | out => exact absurd hq9 (must_ne _ _ _)
            | bad y j =>
              rw [hq9] at ha
              rw [show e = _ from ha]
              have HR := bind_bad HR hq9
              clear ha hq9
              unfold gaveUp
              go_wp2
              exact ⟨rfl, ans_bad HR (hU8.trans hV9) rfl⟩
            | ok _ k5 =>
              rw [hq9] at ha
              obtain ⟨⟨v, rfl, hv⟩, h9⟩ := ha
              subst hv
              have HR := bind_ok HR hq9
              clear hq9
              have hU9 := hU8.trans hV9
              have hF9 := hF8.but hV9 (by omega)
              have hB9 := hB8.but hV9 (by omega)
              have HP9 : Hid (PlW w9 (fun b => w.heap.size + 1 ≤ b ∧ b ≠ gF) ao ps) := PlW.keep (show PlW w8 _ ao ps from HP8) hV9.size fun b hb hl => hV9.block b hl (by omega)
              have hl9 := hF9.lt
              clear HP8 hF8 hB8 h8
              go_wp2_with fail
              have hn10 := bind_ne HR hne
              refine ((allN I hE f).expr w9 R k5 0 h9 hn10).mono ?_
              rintro e w10 ⟨hV10, ha⟩
              cases hq10 : exprP I.M (lmOf I) f 0 k5 with
              | out => exact absurd hq10 hn10
              | bad y j =>
                rw [hq10] at ha
                rw [show e = _ from ha]
                have HR := bind_bad HR hq10
                clear ha hq10
                unfold gaveUp
                go_wp2
                exact ⟨rfl, ans_bad HR (hU9.trans hV10) rfl⟩
              | ok b k6 =>
                rw [hq10] at ha
                obtain ⟨⟨v, rfl, vs, rfl, hxb⟩, h10⟩ := ha
                obtain ⟨e0, e1, e2, e3, e4, e5, e6, rfl⟩ := list7 hxb.len
                have HR := bind_ok HR hq10
                clear hq10 hn10
                have hU10 := hU9.trans hV10
                have hF10 := hF9.but hV10 (by omega)
                have hB10 := hB9.but hV10 (by omega)
                have HP10 : Hid (PlW w10 (fun b => w.heap.size + 1 ≤ b ∧ b ≠ gF) ao ps) := PlW.keep (show PlW w9 _ ao ps from HP9) hV10.size fun b hb hl => hV10.block b hl (by omega)
                have hx10 : ExW w10 (fun b => w.heap.size + 1 ≤ b ∧ b ≠ gF) b [e0, e1, e2, e3, e4, e5, e6] := hxb.imp fun b hb _ => ⟨by omega, by omega⟩
                clear HP9 hF9 hB9 h9
                go_wp2_with (refine wpList_storeN rfl 41 (.tmp 31) (.tmp 30) rfl gF 3 [e0, e1, e2, e3, e4, e5, e6] rfl rfl hF10 (show (3 + 7 : Nat) ≤ 11 by decide) Tryz.infoE hxb.one ?_; intro w11 hF11 ho11)
                have hF11 : Bk w11 gF 43 [.string (bs m.text), .slice ao ps.length c, .int .i64 t, e0, e1, e2, e3, e4, e5, e6, .int .i64 m.at_] := hF11
                have h11 := h10.oth ho11 (by omega) (by omega)
                have hU11 := ho11.but hU10 (by omega)
                have hB11 := hB10.oth ho11 (by omega)
                have HP11 : Hid (PlW w11 (fun b => w.heap.size + 1 ≤ b ∧ b ≠ gF) ao ps) := PlW.keep (show PlW w10 _ ao ps from HP10) (Nat.le_of_eq ho11.size.symm) fun b hb _ => ho11.block b hb.2
                have hx11 := hx10.oth2 ho11 fun b hb => hb.2
                clear HP10 hF10 hB10 h10 hx10 hxb
                refine (must_any I hE [59] (by decide) w11 R k6 0 h11).mono ?_
                rintro e w12 ⟨hV12, ha⟩
                cases hq12 : mustP I.M [59] k6 with
                | out => exact absurd hq12 (must_ne _ _ _)
                | bad y j =>
                  rw [hq12] at ha
                  rw [show e = _ from ha]
                  have HR := bind_bad HR hq12
                  clear ha hq12
                  unfold gaveUp
                  go_wp2
                  exact ⟨rfl, ans_bad HR (hU11.trans hV12) rfl⟩
                | ok _ k7 =>
                  rw [hq12] at ha
                  obtain ⟨⟨v, rfl, hv⟩, h12⟩ := ha
                  subst hv
                  have HR := bind_ok HR hq12
                  clear hq12
                  have hU12 := hU11.trans hV12
                  have hF12 := hF11.but hV12 (by omega)
                  have hB12 := hB11.but hV12 (by omega)
                  have HP12 : Hid (PlW w12 (fun b => w.heap.size + 1 ≤ b ∧ b ≠ gF) ao ps) := PlW.keep (show PlW w11 _ ao ps from HP11) hV12.size fun b hb hl => hV12.block b hl (by omega)
                  have hx12 := hx11.but2 hV12 fun b hb => by omega
                  have h1c : ∀ v ∈ [.string (bs m.text), .slice ao ps.length c, .int .i64 t, e0, e1, e2, e3, e4, e5, e6, .int .i64 m.at_], v.oneCell' = true := by
                    intro v hv
                    simp only [List.mem_cons, List.not_mem_nil, or_false] at hv
                    have h1e := hx12.one
                    simp only [List.mem_cons, List.not_mem_nil, or_false, forall_eq_or_imp, forall_eq] at h1e
                    obtain ⟨q0, q1, q2, q3, q4, q5, q6⟩ := h1e
                    rcases hv with rfl | rfl | rfl | rfl | rfl | rfl | rfl | rfl | rfl | rfl | rfl <;> first | rfl | assumption
                  clear HP11 hF11 hB11 h11 hx11
                  go_wp2_with (first
                    | refine wpList_loadN rfl 43 (.tmp 6) rfl gF 0 rfl [.string (bs m.text), .slice ao ps.length c, .int .i64 t, e0, e1, e2, e3, e4, e5, e6, .int .i64 m.at_] _ (hF12.range 0 11) Tryz.underFn Tryz.infoFn ?_
                    | (refine wpList_storeN rfl 43 (.tmp 4) (.tmp 34) rfl w.heap.size 0 [.string (bs m.text), .slice ao ps.length c, .int .i64 t, e0, e1, e2, e3, e4, e5, e6, .int .i64 m.at_] rfl rfl hB12 (Nat.le_refl 11) Tryz.infoFn h1c ?_; intro wz hBz hoz))
                  have hrz := h12.oth hoz (by omega) (by omega)
                  have hUz := hoz.but hU12 (Nat.le_refl _)
                  have hpz : PlW wz (fun b => w.heap.size ≤ b) ao ps := (PlW.keep (show PlW w12 _ ao ps from HP12) (Nat.le_of_eq hoz.size.symm) fun b hb _ => hoz.block b (by omega)).imp fun b hb _ => by omega
                  have hxz : ExW wz (fun b => w.heap.size ≤ b) b [e0, e1, e2, e3, e4, e5, e6] := (hx12.oth2 hoz fun b hb => by omega).imp fun b hb _ => by omega
                  obtain ⟨q0, q1, q2, q3, q4, q5, q6, q7, q8, q9, q10⟩ := Bk.eleven (show Bk wz w.heap.size _ [_, _, _, _, _, _, _, _, _, _, _] from hBz)
                  refine bodyPost_ret (v := .agg #[.string (bs m.text), .slice ao ps.length c, .int .i64 t, e0, e1, e2, e3, e4, e5, e6, .int .i64 m.at_]) (by simp [results, Tryz.results32, go_sem, q0, q1, q2, q3, q4, q5, q6, q7, q8, q9, q10]) rfl (ans_ok HR hUz ⟨_, rfl, ao, c, [e0, e1, e2, e3, e4, e5, e6], rfl, hpz, hxz⟩ hrz)
end Go.Proofs.YtndgglhppoijnaaGreatDoor
