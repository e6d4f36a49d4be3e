/-
  3 texts in one: what each proves stands at its head.
-/
import Derived.Test.YtndgglhppoijnaaGreatDoorNh
import Derived.Test.YtndgglhppoijnaaGreatDoorNj
import Derived.Test.YtndgglhppoijnaaGreatDoorUJ
import Derived.Test.YtndgglhppoijnaaGreatDoorNp
import Derived.Test.YtndgglhppoijnaaGreatDoorNr
import Derived.Deep.RegionWith
import Derived.Test.YtndgglhppoijnaaGreatDoorUK
/-
  All walks of expressions.
-/
namespace Go.Proofs.YtndgglhppoijnaaGreatDoor
open Go.RowKit
set_option maxRecDepth 100000

theorem allN (I : Rdi) (hE : Ends I.M I.n) (f : Nat) : AllN I f := by
  induction f using Nat.strongRecOn with
  | _ f ih =>
    cases f with
    | zero =>
      constructor
      all_goals
        intros
        exfalso
        rename_i hne
        apply hne
        first
        | rw [exprP]
        | rw [bindP]
        | rw [ifP]
        | rw [caseP]
        | rw [consP]
        | rw [compP]
        | rw [sumP]
        | rw [termP]
        | rw [unitP]
        | rw [namedP]
        | rw [wordedP]
        | rw [brackP]
        | rw [argsP]
    | succ f =>
      have ihs : ∀ g, g ≤ f → AllN I g := fun g hg => ih g (by omega)
      have ih1 := ihs f (Nat.le_refl _)
      exact ⟨expr_step I hE f ih1, bind_step I hE f ih1, choice_step I hE f ih1, look_step I hE f ih1, cons_step I hE f ihs, comp_step I hE f ih1, sum_step I hE f ihs, term_step I hE f ihs, unit_step I hE f ih1, named_step I hE f ih1, worded_step I hE f ih1, brack_step I hE f ih1, args_step I hE f ihs⟩
end Go.Proofs.YtndgglhppoijnaaGreatDoor
/-
  The walk of param.
-/
namespace Go.Proofs.YtndgglhppoijnaaGreatDoor
open Go.RowKit
set_option maxRecDepth 100000

def pmC (p : Pm) : List Value := [.string (bs p.name), .int .i64 p.ty, .int .i64 p.pos]
def pmV (_ : World) (p : Pm) (v : Value) : Prop := v = .agg (pmC p).toArray

theorem nameOf_ne (M : Nat → Mk) (n : Nat) (m : Int) (k : Nat) : nameOfP M n m k ≠ .out := by
  unfold nameOfP nameP
  repeat' split
  all_goals simp
theorem type_ne2 (M : Nat → Mk) (k : Nat) : typeP M k ≠ .out := by
  unfold typeP
  repeat' split
  all_goals simp
theorem Bk.three {w : World} {b : Nat} {t : TypeId} {x0 x1 x2 : Value} (h : Bk w b t [x0, x1, x2]) : w.cell? ⟨b, 0, none⟩ = some x0 ∧ w.cell? ⟨b, 1, none⟩ = some x1 ∧ w.cell? ⟨b, 2, none⟩ = some x2 := ⟨h.cell 0, h.cell 1, h.cell 2⟩

set_option maxHeartbeats 4000000 in
theorem param_any (I : Rdi) (hE : Ends I.M I.n) (num : Nat) (w : World) (R k d : Nat) (h : Rdr I w R k d) :
    Calls Tryz.prog 74 #[.pointer (some ⟨R, 0, none⟩), .int .i64 ((num + 1 : Nat) : Int)] w fun e w' => Ans I R d w pmV (paramP I.M (lmOf I) num k) e w' := by
  obtain ⟨r, hr⟩ : ∃ r, r = paramP I.M (lmOf I) num k := ⟨_, rfl⟩
  rw [← hr]
  unfold paramP at hr
  have HR : Hid (r = (nameOfP I.M num I.la k).bind fun x k1 => (typeP I.M k1).bind fun t k2 => .ok ⟨x.text, t, x.at_⟩ k2) := hr
  clear hr
  have hB0 := Bk.new w 53 #[.string ⟨#[]⟩, .int .i64 0, .int .i64 0]
  have hlt := h.lt
  have hb0 := below_alloc w (.cells #[.string ⟨#[]⟩, .int .i64 0, .int .i64 0] 53)
  have h1 := h.up hb0
  have hU1 := bel_but hb0 R
  have c4 : (w.alloc (.cells #[.string ⟨#[]⟩, .int .i64 0, .int .i64 0] 53)).cell? ⟨R, 4, none⟩ = some (.int .i64 I.la) := h1.blk.cell 4
  go_enter Tryz.func74, Tryz.ntmps74
  go_wp2_with fail
  have hno := nameOf_any I hE num I.la _ R k d h1
  refine hno.mono ?_
  rintro e w2 ⟨hV2, ha⟩
  cases hq2 : nameOfP I.M num I.la k with
  | out => exact absurd hq2 (nameOf_ne _ _ _ _)
  | bad y j =>
    rw [hq2] at ha
    rw [show e = _ from ha]
    have HR := bind_bad HR hq2
    clear ha hq2 hno
    unfold gaveUp
    go_wp2
    exact ⟨rfl, ans_bad HR (hU1.trans hV2) rfl⟩
  | ok m k1 =>
    rw [hq2] at ha
    obtain ⟨⟨v, rfl, hv⟩, h2⟩ := ha
    obtain rfl : v = mkV m := hv
    have HR := bind_ok HR hq2
    clear hq2 hno
    unfold mkV
    have hU2 := hU1.trans hV2
    have hB2 := hB0.but hV2 (by omega)
    have hl2 := hB2.lt
    have hL := Bk.new w2 85 mz
    go_wp2_with (refine wpList_storeN rfl 85 (.tmp 5) (.tmp 13) rfl w2.heap.size 0 (mkC m) rfl rfl hL (Nat.le_refl 4) Tryz.infoM (mkC_one _) ?_; intro w3 hM3 ho3)
    have hb3 := (below_alloc w2 (.cells mz 85)).trans (ho3.below (Nat.le_refl _))
    have h3 := h2.up hb3
    have hU3 := hU2.then hb3
    have hB3 := hB2.up hb3
    have hL3 : Bk w3 w2.heap.size 85 [.int .i64 m.kind, .string (bs m.text), .complex .f64 (fl m.p) (fl m.q), .int .i64 m.at_] := hM3
    have s1 := hL3.four.2.1
    have s3 := hL3.four.2.2.2
    have hl3 := hL3.lt
    obtain ⟨x0, x1, x2⟩ := hB3.three
    have y0 := hB3.frz 0
    have y1 := hB3.frz 1
    have y2 := hB3.frz 2
    have hty := type_any I hE (World.drew w3) R k1 d (h3.up (Below.refl _ w3).drew)
    clear hM3 hL hB0 hB2 h1 h2 c4 ho3 hb3
    cases hq4 : typeP I.M k1 with
    | out => exact absurd hq4 (type_ne2 _ _)
    | bad y j =>
      have HR := bind_bad HR hq4
      rw [hq4] at hty
      clear hq4
      go_wp2
      go_region_with (go_at_call 50; refine calls_two hty (.int .i64 0) (World.drew w3) (by rintro e w6 ⟨hV6, ha⟩; rw [show e = _ from ha]; unfold gaveUp; exact ⟨rfl, ans_bad HR (hU3.drew.trans hV6) rfl⟩) ?_; intro hF; have HF : Hid False := hF; clear hF; dsimp only)
      all_goals exact (show False from HF).elim
    | ok t k2 =>
      have HR := bind_ok HR hq4
      rw [hq4] at hty
      clear hq4
      go_wp2
      go_region_with (go_at_call 50; refine hty.mono ?_; rintro e w4 ⟨hV4, ⟨v, rfl, hv⟩, h4⟩; obtain rfl : v = .int .i64 t := hv; have hU4 := hU3.drew.trans hV4; have hB4 := Bk.but (w := World.drew w3) hB3 hV4 (by omega); have hL4 := Bk.but (w := World.drew w3) hL3 hV4 (by omega); have u1 := hL4.four.2.1; have u3 := hL4.four.2.2.2; obtain ⟨z0, z1, z2⟩ := hB4.three; have v0 := hB4.frz 0; have v1 := hB4.frz 1; have v2 := hB4.frz 2)
      all_goals
        have hS := Bk.sets [.string (bs m.text), .int .i64 t, .int .i64 m.at_] hB4 0
        have hrz := h4.oth hS.2 (by omega) (by omega)
        have hUz := hS.2.but hU4 (Nat.le_refl _)
        obtain ⟨q0, q1, q2⟩ := Bk.three (show Bk (World.setCells _ _ _ _) w.heap.size _ [_, _, _] from hS.1)
        go_wp2
        refine bodyPost_ret (v := .agg #[.string (bs m.text), .int .i64 t, .int .i64 m.at_]) ?_ rfl (ans_ok HR hUz ?_ hrz)
        · simp only [World.setCells] at q0 q1 q2
          simp [results, Tryz.results74, go_sem, q0, q1, q2]
        · rfl
end Go.Proofs.YtndgglhppoijnaaGreatDoor
/-
  Rows of parameters; the walk of params.
-/
namespace Go.Proofs.YtndgglhppoijnaaGreatDoor
open Go.RowKit
set_option maxRecDepth 100000

theorem Tryz.infoP : (Tryz.prog.info? 53).map (fun i => (i.zero, i.size, i.bytes)) = some (some (.agg #[.string ⟨#[]⟩, .int .i64 0, .int .i64 0]), 3, 32) := by kernel_rfl
theorem Tryz.underPs : Tryz.prog.underlying 35 = some (.slice 53) := by kernel_rfl

def pmsC (ps : List Pm) : List Value := ps.flatMap pmC
theorem pmsC_app (a b : List Pm) : pmsC (a ++ b) = pmsC a ++ pmsC b := by simp [pmsC]
theorem pmsC_len (ps : List Pm) : (pmsC ps).length = ps.length * 3 := by
  induction ps with
  | nil => rfl
  | cons p ps ih => rw [show pmsC (p :: ps) = pmC p ++ pmsC ps from rfl, List.length_append, ih]; simp [pmC]; omega

/-- Parameters in memory, in a block of which A holds. -/
def PlW (w : World) (A : Nat → Prop) (ao : Option Addr) (ps : List Pm) : Prop := ps = [] ∨ ∃ g, ao = some ⟨g, 0, none⟩ ∧ A g ∧ g < w.heap.size ∧ w.rangeAt g 0 (pmsC ps)
def plV (B : Nat) (w : World) (ps : List Pm) (v : Value) : Prop := ∃ ao c, v = .slice ao ps.length c ∧ PlW w (fun b => B ≤ b) ao ps

theorem PlW.keep {w w' : World} {A : Nat → Prop} {ao : Option Addr} {ps : List Pm} (h : PlW w A ao ps) (hs : w.heap.size ≤ w'.heap.size) (hk : ∀ b, A b → b < w.heap.size → w'.heap[b]? = w.heap[b]?) : PlW w' A ao ps := by
  rcases h with h | ⟨g, e, ha, hl, hr⟩
  · exact .inl h
  · refine .inr ⟨g, e, ha, by omega, fun j v hv => ?_⟩
    rw [show w'.cell? ⟨g, 0 + j, none⟩ = w.cell? ⟨g, 0 + j, none⟩ from World.cell?_of_block (w := w) (hk g ha hl)]
    exact hr j v hv
theorem PlW.imp {w : World} {A A' : Nat → Prop} {ao : Option Addr} {ps : List Pm} (h : PlW w A ao ps) (hk : ∀ b, A b → b < w.heap.size → A' b) : PlW w A' ao ps := by
  rcases h with h | ⟨g, e, ha, hl, hr⟩
  · exact .inl h
  · exact .inr ⟨g, e, hk g ha hl, hl, hr⟩

theorem prow_read {w : World} {B : Nat} {v : Value} {ps : List Pm} (h : w.ownsRow B 53 3 v ps.length (pmsC ps)) : plV B w ps v := by
  rcases h.2 with ⟨rfl, h0⟩ | ⟨g, cap, cur, rfl, h3, h4, _, _, h5, h6⟩
  · exact ⟨none, 0, by rw [h0], .inl (List.length_eq_zero_iff.1 h0)⟩
  · refine ⟨some ⟨g, 0, none⟩, cap, rfl, .inr ⟨g, rfl, h3, (owns_has h g rfl).2, fun j u hu => ?_⟩⟩
    rw [Nat.zero_add, cell_of_row w g j _ _ _ h4]
    have hj := (List.getElem?_eq_some_iff.1 hu).1
    have hl := h.1
    have e : cur[j]? = (cur.toList.take (ps.length * 3))[j]? := by rw [List.getElem?_take, if_pos (by omega)]; simp
    rw [e, h6, hu]

theorem pmC_one (p : Pm) : ∀ u ∈ pmC p, u.oneCell' = true := by
  intro u hu
  simp only [pmC, List.mem_cons, List.not_mem_nil, or_false] at hu
  rcases hu with rfl | rfl | rfl <;> rfl

/-- One just laid. -/
theorem prow_new {w : World} {B : Nat} (hB : B ≤ w.heap.size) (p : Pm) : (w.alloc (.cells #[.string (bs p.name), .int .i64 p.ty, .int .i64 p.pos] 53)).ownsRow B 53 3 (.slice (some ⟨w.heap.size, 0, none⟩) 1 1) [p].length (pmsC [p]) :=
  ⟨rfl, .inr ⟨w.heap.size, 1, _, rfl, hB, heap_alloc_new w _, Nat.le_refl _, by unfold maxLen; omega, rfl, rfl⟩⟩

/-- An append of one just laid. -/
theorem prow_app {w : World} {B : Nat} {v : Value} {ps : List Pm} (h : w.ownsRow B 53 3 v ps.length (pmsC ps)) (hB : B ≤ w.heap.size) (p : Pm) (hl : ps.length ≤ 10000000) :
    ∃ v' w', (Builtin.append_ #[35, 35] 35 #[v, .slice (some ⟨w.heap.size, 0, none⟩) 1 1]).run Tryz.prog (w.alloc (.cells #[.string (bs p.name), .int .i64 p.ty, .int .i64 p.pos] 53)) = .ok v' w' ∧ w'.ownsRow B 53 3 v' (ps ++ [p]).length (pmsC (ps ++ [p])) ∧ Below B w w' := by
  obtain ⟨i0, hi, hz0, hz1, hz2⟩ := info_parts Tryz.infoP
  have hlow := owns_has h
  have ho := owns_keep h (w' := w.alloc (.cells #[.string (bs p.name), .int .i64 p.ty, .int .i64 p.pos] 53)) fun b hb => Below.heap_alloc _ _ _ (hlow b hb).2
  have hk := Bk.new w 53 #[.string (bs p.name), .int .i64 p.ty, .int .i64 p.pos]
  have hBs : B ≤ (w.alloc (.cells #[.string (bs p.name), .int .i64 p.ty, .int .i64 p.pos] 53)).heap.size := by simp; omega
  obtain ⟨v', w', hr, ho', hgr, _⟩ := append_own1 Tryz.underPs hi hz0 hz1 hz2 rfl (by decide) ho ⟨w.heap.size, 0, none⟩ (pmC p) rfl (by
    intro j u hj
    rw [Addr.add_mid, Nat.zero_add, hk.cell]
    exact hj) (pmC_one p) hl (by decide) hBs
  refine ⟨v', w', hr, ?_, ((below_alloc w _).mono hB).trans ((Below.refl B _).grown hgr hBs fun k hk => (hlow k hk).1)⟩
  rw [pmsC_app, List.length_append]
  simpa [pmsC] using ho'

theorem prow_but {w w' : World} {B R : Nat} {v : Value} {ps : List Pm} (h : w.ownsRow B 53 3 v ps.length (pmsC ps)) (hU : But R w w') (hR : R < B) : w'.ownsRow B 53 3 v ps.length (pmsC ps) :=
  owns_keep h fun b hb => hU.block b (owns_has h b hb).2 (by have := (owns_has h b hb).1; omega)
theorem prow_up {w w' : World} {B : Nat} {v : Value} {ps : List Pm} (h : w.ownsRow B 53 3 v ps.length (pmsC ps)) (hb : Below w.heap.size w w') : w'.ownsRow B 53 3 v ps.length (pmsC ps) :=
  owns_keep h fun b hb' => hb.block b (owns_has h b hb').2

set_option maxHeartbeats 8000000 in
theorem params_any (I : Rdi) (hE : Ends I.M I.n) (f : Nat) (w : World) (R k d : Nat) (h : Rdr I w R k d) (hne : paramsP I.M (lmOf I) f k ≠ .out) :
    Calls Tryz.prog 48 #[.pointer (some ⟨R, 0, none⟩)] w fun e w' => Ans I R d w (plV w.heap.size) (paramsP I.M (lmOf I) f k) e w' := by
  have hlt := h.lt
  obtain ⟨r, hr⟩ : ∃ r, r = paramsP I.M (lmOf I) f k := ⟨_, rfl⟩
  rw [← hr] at hne ⊢
  unfold paramsP at hr
  have HR : Hid (r = _) := hr
  clear hr
  go_enter Tryz.func48, Tryz.ntmps48
  go_wp2_with fail
  refine (must_any I hE [40] (by decide) w R k d h).mono ?_
  rintro e w1 ⟨hU1, ha⟩
  cases hq1 : mustP I.M [40] k with
  | out => exact absurd hq1 (by unfold mustP; split <;> simp)
  | bad y j =>
    rw [hq1] at ha
    rw [show e = _ from ha]
    have HR := bind_bad HR hq1
    clear ha hq1
    unfold gaveUp
    go_wp2
    exact ⟨rfl, ans_bad HR hU1 rfl⟩
  | ok x k1 =>
    rw [hq1] at ha
    obtain ⟨⟨v, rfl, hv⟩, h1⟩ := ha
    subst hv
    have HR := bind_ok HR hq1
    have hk01 : k ≤ k1 := by have := ge_must I.M [40] k; rw [hq1] at this; exact this
    clear hq1
    have hc1 := hU1.size
    cases t1 : tk I.M [41] k1 with
    | true =>
      have HR : Hid (r = .ok [] (k1 + 1)) := by show r = _; rw [show r = _ from HR, if_pos t1]
      have HT : Hid (tk I.M [41] k1 = true) := t1
      clear t1
      go_wp2_with fail
      refine (pass_yes I [41] w1 R k1 d h1 HT (hE.tk I.M HT (by decide) h1.kn)).mono ?_
      rintro e w2 ⟨rfl, h2, hV2⟩
      go_wp2
      go_ret
      exact ans_ok HR (hU1.trans hV2) ⟨none, 0, rfl, .inl rfl⟩ h2
    | false =>
      have HR : Hid (r = (paramP I.M (lmOf I) 0 k1).bind fun a k2 => paramsL I.M (lmOf I) f [a] k2) := by show r = _; rw [show r = _ from HR, if_neg (by rw [t1]; simp)]
      have HT : Hid (tk I.M [41] k1 = false) := t1
      clear t1
      go_wp2_with fail
      refine (pass_no I [41] w1 R k1 d h1 HT).mono ?_
      rintro e w2 ⟨rfl, hb2⟩
      have h2 := h1.up hb2
      have hU2 := hU1.then hb2
      have hc2 := hU2.size
      have hpa := param_any I hE 0 w2 R k1 d h2
      rw [show ((0 + 1 : Nat) : Int) = 1 from rfl] at hpa
      go_wp2_with fail
      have hn3 := bind_ne HR hne
      refine hpa.mono ?_
      rintro e w3 ⟨hV3, ha⟩
      cases hq3 : paramP I.M (lmOf I) 0 k1 with
      | out => exact absurd hq3 hn3
      | bad y j =>
        rw [hq3] at ha
        rw [show e = _ from ha]
        have HR := bind_bad HR hq3
        clear ha hq3 hpa
        unfold gaveUp
        go_wp2
        exact ⟨rfl, ans_bad HR (hU2.trans hV3) rfl⟩
      | ok a k2 =>
        rw [hq3] at ha
        obtain ⟨⟨v, rfl, hv⟩, h3⟩ := ha
        obtain rfl : v = .agg #[.string (bs a.name), .int .i64 a.ty, .int .i64 a.pos] := hv
        have HR := bind_ok HR hq3
        have hge : k1 ≤ k2 := by have := ge_param I.M (lmOf I) 0 k1; rw [hq3] at this; exact this
        have hgd := gd_param I.M (lmOf I) hE 0 k1 h2.kn
        rw [hq3] at hgd
        have hg1 : k1 + 1 ≤ k2 := hgd.1
        clear hq3 hn3 hpa hgd
        have hU3 := hU2.trans hV3
        have hb4 := below_alloc w3 (.cells #[.string (bs a.name), .int .i64 a.ty, .int .i64 a.pos] 53)
        have h4 := h3.up hb4
        have hU4 := hU3.then hb4
        have HW : Hid ((w3.alloc (.cells #[.string (bs a.name), .int .i64 a.ty, .int .i64 a.pos] 53)).ownsRow w.heap.size 53 3 (.slice (some ⟨w3.heap.size, 0, none⟩) 1 1) [a].length (pmsC [a])) := prow_new hU3.size a
        go_wp2_with fail
        go_loopw [3] (fun v wr => ∃ (acc : List Pm) (j g : Nat), Hid (wr.ownsRow w.heap.size 53 3 v acc.length (pmsC acc)) ∧ Rdr I wr R j d ∧ But R w wr ∧ acc.length ≤ j ∧ Hid (r = paramsL I.M (lmOf I) g acc j)) (fun _ wr => I.n - posOf R wr)
        case atStart => exact ⟨[a], k2, f, HW, h4, hU4, by simp; omega, HR⟩
        case round =>
          clear HW HR h4 hU4 hU3 h3 hb4 h1 h2
          obtain ⟨acc, j, g, HW, hj, hUr, hlen, HR⟩ := hrel
          cases g with
          | zero => exact absurd ((show r = _ from HR).trans (by rw [paramsL])) hne
          | succ g =>
            have hr := show r = _ from HR
            rw [paramsL] at hr
            have HR : Hid (r = _) := hr
            clear hr
            have hpj := hj.pos
            have hsr := hUr.size
            obtain ⟨ao, cp, rfl, _⟩ := prow_read (show World.ownsRow _ _ _ _ _ _ _ from HW)
            cases t1 : tk I.M [44] j with
            | true =>
              have HR : Hid (r = (paramP I.M (lmOf I) acc.length (j + 1)).bind fun a k1 => paramsL I.M (lmOf I) g (acc ++ [a]) k1) := by show r = _; rw [show r = _ from HR, if_pos t1]
              have HT : Hid (tk I.M [44] j = true) := t1
              clear t1
              go_wp2_with fail
              refine (pass_yes I [44] wr R j d hj HT (hE.tk I.M HT (by decide) hj.kn)).mono ?_
              rintro e w5 ⟨rfl, h5, hV5⟩
              have hU5 := hUr.trans hV5
              have HW5 : Hid (w5.ownsRow w.heap.size 53 3 (.slice ao acc.length cp) acc.length (pmsC acc)) := prow_but (show World.ownsRow _ _ _ _ _ _ _ from HW) hV5 (by omega)
              have hc5 := hU5.size
              have hs5 := h5.small
              have hk5 := h5.kn
              have hpa := param_any I hE acc.length w5 R (j + 1) d h5
              rw [show ((acc.length + 1 : Nat) : Int) = (acc.length : Int) + 1 by omega] at hpa
              have hwl : IntKind.i64.wrap ((acc.length : Int) + 1) = (acc.length : Int) + 1 := by rw [IntKind.wrap_i64]; omega
              go_wp2_with fail
              have hn6 := bind_ne HR hne
              refine hpa.mono ?_
              rintro e w6 ⟨hV6, ha⟩
              cases hq6 : paramP I.M (lmOf I) acc.length (j + 1) with
              | out => exact absurd hq6 hn6
              | bad y i =>
                rw [hq6] at ha
                rw [show e = _ from ha]
                have HR := bind_bad HR hq6
                clear ha hq6 hpa
                unfold gaveUp
                go_wp2
                exact ⟨rfl, ans_bad HR (hU5.trans hV6) rfl⟩
              | ok x j2 =>
                rw [hq6] at ha
                obtain ⟨⟨v, rfl, hv⟩, h6⟩ := ha
                obtain rfl : v = .agg #[.string (bs x.name), .int .i64 x.ty, .int .i64 x.pos] := hv
                have HR := bind_ok HR hq6
                have hj2 : j + 1 ≤ j2 := by have := ge_param I.M (lmOf I) acc.length (j + 1); rw [hq6] at this; exact this
                clear hq6 hn6 hpa
                have hU6 := hU5.trans hV6
                obtain ⟨v', w7, hrun, hrow7, hb7⟩ := prow_app (prow_but (show World.ownsRow _ _ _ _ _ _ _ from HW5) hV6 (by omega)) hU6.size x (by omega)
                have HRUN : Hid (_ = _) := hrun
                have HW7 : Hid (w7.ownsRow w.heap.size 53 3 v' (acc ++ [x]).length (pmsC (acc ++ [x]))) := hrow7
                have h7 := h6.low hb7 hlt.1 hlt.2
                have hU7 := hU6.low hb7
                have hp7 := h7.pos
                clear hrun hrow7 HW5 HW
                go_wp2_with (at_builtin; refine wpList_append_run rfl (.tmp 13) (.tmp 19) 35 rfl rfl _ _ rfl rfl _ _ (show _ = _ from HRUN) ?_)
                go_roundw
                case rel => exact ⟨acc ++ [x], j2, g, HW7, h7, hU7, by simp; omega, HR⟩
                case measure => rw [hp7, hpj]; omega
            | false =>
              have HR : Hid (r = (mustP I.M [41] j).bind fun _ k1 => .ok acc k1) := by show r = _; rw [show r = _ from HR, if_neg (by rw [t1]; simp)]
              have HT : Hid (tk I.M [44] j = false) := t1
              clear t1
              go_wp2_with fail
              refine (pass_no I [44] wr R j d hj HT).mono ?_
              rintro e w5 ⟨rfl, hb5⟩
              have h5 := hj.up hb5
              have hU5 := hUr.then hb5
              have HW5 : Hid (w5.ownsRow w.heap.size 53 3 (.slice ao acc.length cp) acc.length (pmsC acc)) := prow_up (show World.ownsRow _ _ _ _ _ _ _ from HW) hb5
              go_wp2_with fail
              refine (must_any I hE [41] (by decide) w5 R j d h5).mono ?_
              rintro e w6 ⟨hV6, ha⟩
              cases hq6 : mustP I.M [41] j with
              | out => exact absurd hq6 (must_ne _ _ _)
              | bad y i =>
                rw [hq6] at ha
                rw [show e = _ from ha]
                have HR := bind_bad HR hq6
                clear ha hq6
                unfold gaveUp
                go_wp2
                exact ⟨rfl, ans_bad HR (hU5.trans hV6) rfl⟩
              | ok x j2 =>
                rw [hq6] at ha
                obtain ⟨⟨v, rfl, hv⟩, h6⟩ := ha
                subst hv
                have HR := bind_ok HR hq6
                clear hq6
                have hR6 := prow_read (prow_but (show World.ownsRow _ _ _ _ _ _ _ from HW5) hV6 (by omega))
                go_wp2
                go_ret
                exact ans_ok HR (hU5.trans hV6) hR6 h6
end Go.Proofs.YtndgglhppoijnaaGreatDoor
