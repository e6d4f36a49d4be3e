/-
  The walks of name, nameOf, typeWord, enter, leave.
-/
import Derived.Test.YtkonkplalgoekaaGreatDoorNc
namespace Go.Proofs.YtkonkplalgoekaaGreatDoor
open Go.RowKit
set_option maxRecDepth 100000

theorem fldM (m : Mk) (W : World) : (Instr.field 42 (.agg #[.int .i64 m.kind, .string (bs m.text), .complex .f64 (fl m.p) (fl m.q), .int .i64 m.at_]) 0).run Tryz.prog W = .ok (.int .i64 m.kind) W ∧
    (Instr.field 42 (.agg #[.int .i64 m.kind, .string (bs m.text), .complex .f64 (fl m.p) (fl m.q), .int .i64 m.at_]) 1).run Tryz.prog W = .ok (.string (bs m.text)) W ∧
    (Instr.field 42 (.agg #[.int .i64 m.kind, .string (bs m.text), .complex .f64 (fl m.p) (fl m.q), .int .i64 m.at_]) 2).run Tryz.prog W = .ok (.complex .f64 (fl m.p) (fl m.q)) W ∧
    (Instr.field 42 (.agg #[.int .i64 m.kind, .string (bs m.text), .complex .f64 (fl m.p) (fl m.q), .int .i64 m.at_]) 3).run Tryz.prog W = .ok (.int .i64 m.at_) W :=
  ⟨fld 0 _ _ _ _ _ rfl W, fld 1 _ _ _ _ _ rfl W, fld 2 _ _ _ _ _ rfl W, fld 3 _ _ _ _ _ rfl W⟩

theorem Rdr.drewN {I : Rdi} {w : World} {R k d : Nat} (h : Rdr I w R k d) (q : Nat) : Rdr I (w.drewN q) R k d := h.up ⟨rfl, rfl, rfl, Nat.le_refl _, fun _ _ => rfl⟩
theorem Bk.drewN {w : World} {b : Nat} {t : TypeId} {vs : List Value} (h : Bk w b t vs) (q : Nat) : Bk (w.drewN q) b t vs := h

def isV (_ : World) (m : Mk) (v : Value) : Prop := v = mkV m
def isT (_ : World) (t : Int) (v : Value) : Prop := v = .int .i64 t

set_option maxHeartbeats 1000000 in
theorem name_any (I : Rdi) (hE : Ends I.M I.n) (w : World) (R k d : Nat) (h : Rdr I w R k d) :
    Calls Tryz.prog 61 #[.pointer (some ⟨R, 0, none⟩)] w fun e w' => Ans I R d w isV (nameP I.M k) e w' := by
  have hB0 := Bk.new w 42 mz
  have h1 := h.up (below_alloc w (.cells mz 42))
  have hlt := h.lt
  have hf := fun W => (fldM (I.M k) W).1
  by_cases hkd : (I.M k).kind = 0
  · have HR : Hid (nameP I.M k = .ok (I.M k) (k + 1)) := by show _ = _; unfold nameP; rw [if_pos hkd]
    generalize nameP I.M k = r at *
    have hkn := hE.kd I.M hkd (by decide) h.kn
    have hkb : ((I.M k).kind != 0) = false := by simp [hkd]
    clear hkd
    go_enter Tryz.func61, Tryz.ntmps61
    go_wp2_with (first
      | (go_at_call 30; refine (next_any I _ R k d h1).mono ?_; rintro e w1 ⟨rfl, hb1⟩; unfold mkV; have h2 := h1.up hb1; have hB1 := hB0.up hb1; have hU := bel_but (Below.thn (below_alloc w (.cells mz 42)) hb1) R; clear hb1)
      | (go_at_call 83; refine (take_any I w1 R k d h2 hkn).mono ?_; rintro e w2 ⟨rfl, h3, hU2⟩; have hB2 := hB1.but hU2 (by omega); have hU3 := hU.trans hU2)
      | (refine wpList_storeN rfl 42 (.tmp 2) (.tmp 10) rfl w.heap.size 0 (mkC (I.M k)) rfl rfl hB2 (Nat.le_refl 4) Tryz.infoM (mkC_one _) ?_; intro w4 hB5 ho4; have h6 := h3.oth ho4 (by omega) (by omega); have hU4 := ho4.but hU3 (Nat.le_refl _); obtain ⟨q0, q1, q2, q3⟩ := Bk.four (show Bk w4 w.heap.size _ [_, _, _, _] from hB5)))
    refine bodyPost_ret (v := mkV (I.M k)) (by simp [results, Tryz.results61, go_sem, mkV, q0, q1, q2, q3]) rfl (ans_ok HR hU4 rfl h6)
  · have HR : Hid (nameP I.M k = .bad 21 k) := by show _ = _; unfold nameP; rw [if_neg hkd]
    generalize nameP I.M k = r at *
    have hkb : ((I.M k).kind != 0) = true := by simp [hkd]
    clear hkd
    go_enter Tryz.func61, Tryz.ntmps61
    go_wp2_with (first
      | (go_at_call 30; refine (next_any I _ R k d h1).mono ?_; rintro e w1 ⟨rfl, hb1⟩; unfold mkV; have h2 := h1.up hb1)
      | (go_at_call 60; refine (giveUp_any I 21 w1 R k d h2).mono ?_; rintro e w2 ⟨rfl, hb2⟩; unfold gaveUp))
    exact ⟨rfl, ans_bad HR (bel_but (Below.thn (Below.thn (below_alloc w (.cells mz 42)) hb1) hb2) R) rfl⟩

set_option maxHeartbeats 1000000 in
theorem nameOf_any (I : Rdi) (hE : Ends I.M I.n) (num : Nat) (most : Int) (w : World) (R k d : Nat) (h : Rdr I w R k d) :
    Calls Tryz.prog 39 #[.pointer (some ⟨R, 0, none⟩), .int .i64 ((num + 1 : Nat) : Int), .int .i64 most] w fun e w' => Ans I R d w isV (nameOfP I.M num most k) e w' := by
  have hB0 := Bk.new w 42 mz
  have h1 := h.up (below_alloc w (.cells mz 42))
  have hlt := h.lt
  have hf := fun W => (fldM (I.M k) W).1
  by_cases hc : most ≤ num ∧ (I.M k).kind = 0
  · have HR : Hid (nameOfP I.M num most k = .bad 22 k) := by show _ = _; unfold nameOfP; rw [if_pos hc]
    generalize nameOfP I.M num most k = r at *
    have hm : most < ((num + 1 : Nat) : Int) := by omega
    have hkb : ((I.M k).kind == 0) = true := by simp [hc.2]
    clear hc
    go_enter Tryz.func39, Tryz.ntmps39
    go_wp2_with (first
      | (go_at_call 30; refine (next_any I _ R k d h1).mono ?_; rintro e w1 ⟨rfl, hb1⟩; unfold mkV; have h2 := h1.up hb1)
      | (go_at_call 60; refine (giveUp_any I 22 w1 R k d h2).mono ?_; rintro e w2 ⟨rfl, hb2⟩; unfold gaveUp))
    exact ⟨rfl, ans_bad HR (bel_but (Below.thn (Below.thn (below_alloc w (.cells mz 42)) hb1) hb2) R) rfl⟩
  · have HR : Hid (nameOfP I.M num most k = nameP I.M k) := by show _ = _; unfold nameOfP; rw [if_neg hc]
    generalize nameOfP I.M num most k = r at *
    by_cases hm : most ≤ num
    · have hm' : most < ((num + 1 : Nat) : Int) := by omega
      have hkb : ((I.M k).kind == 0) = false := by simp; exact fun e => hc ⟨hm, e⟩
      clear hc hm
      go_enter Tryz.func39, Tryz.ntmps39
      go_wp2_with (go_at_call 30; refine (next_any I _ R k d h1).mono ?_; rintro e w1 ⟨rfl, hb1⟩; unfold mkV; have h2 := h1.up hb1; have hB1 := hB0.up hb1; have hU := bel_but (Below.thn (below_alloc w (.cells mz 42)) hb1) R; clear hb1)
      refine (name_any I hE w1 R k d h2).mono ?_
      rintro e w2 ⟨hU2, ha⟩
      cases hq : nameP I.M k with
      | out => unfold nameP at hq; split at hq <;> cases hq
      | bad y j =>
        rw [hq] at ha HR
        rw [show e = _ from ha]
        clear ha
        unfold gaveUp
        go_wp2
        exact ⟨rfl, ans_bad HR (hU.trans hU2) rfl⟩
      | ok m j =>
        rw [hq] at ha HR
        obtain ⟨⟨v, rfl, hv⟩, h3⟩ := ha
        obtain rfl : v = mkV m := hv
        have hB2 := hB1.but hU2 (by omega)
        have hU3 := hU.trans hU2
        go_wp2_with (refine wpList_storeN rfl 42 (.tmp 6) (.tmp 19) rfl w.heap.size 0 (mkC m) rfl rfl hB2 (Nat.le_refl 4) Tryz.infoM (mkC_one _) ?_; intro w4 hB5 ho4; have h6 := h3.oth ho4 (by omega) (by omega); have hU4 := ho4.but hU3 (Nat.le_refl _); obtain ⟨q0, q1, q2, q3⟩ := Bk.four (show Bk w4 w.heap.size _ [_, _, _, _] from hB5))
        refine bodyPost_ret (v := mkV m) (by simp [results, Tryz.results39, go_sem, mkV, q0, q1, q2, q3]) rfl (ans_ok HR hU4 rfl h6)
    · have hm' : ¬ most < ((num + 1 : Nat) : Int) := by omega
      clear hc hm
      go_enter Tryz.func39, Tryz.ntmps39
      go_wp2_with fail
      have hU := bel_but (below_alloc w (.cells mz 42)) R
      refine (name_any I hE _ R k d h1).mono ?_
      rintro e w2 ⟨hU2, ha⟩
      cases hq : nameP I.M k with
      | out => unfold nameP at hq; split at hq <;> cases hq
      | bad y j =>
        rw [hq] at ha HR
        rw [show e = _ from ha]
        clear ha
        unfold gaveUp
        go_wp2
        exact ⟨rfl, ans_bad HR (hU.trans hU2) rfl⟩
      | ok m j =>
        rw [hq] at ha HR
        obtain ⟨⟨v, rfl, hv⟩, h3⟩ := ha
        obtain rfl : v = mkV m := hv
        have hB2 := hB0.but hU2 (by omega)
        have hU3 := hU.trans hU2
        go_wp2_with (refine wpList_storeN rfl 42 (.tmp 6) (.tmp 19) rfl w.heap.size 0 (mkC m) rfl rfl hB2 (Nat.le_refl 4) Tryz.infoM (mkC_one _) ?_; intro w4 hB5 ho4; have h6 := h3.oth ho4 (by omega) (by omega); have hU4 := ho4.but hU3 (Nat.le_refl _); obtain ⟨q0, q1, q2, q3⟩ := Bk.four (show Bk w4 w.heap.size _ [_, _, _, _] from hB5))
        refine bodyPost_ret (v := mkV m) (by simp [results, Tryz.results39, go_sem, mkV, q0, q1, q2, q3]) rfl (ans_ok HR hU4 rfl h6)

set_option maxHeartbeats 1000000 in
theorem type_any (I : Rdi) (hE : Ends I.M I.n) (w : World) (R k d : Nat) (h : Rdr I w R k d) :
    Calls Tryz.prog 42 #[.pointer (some ⟨R, 0, none⟩)] w fun e w' => Ans I R d w isT (typeP I.M k) e w' := by
  obtain ⟨r, hr⟩ : ∃ r, r = typeP I.M k := ⟨_, rfl⟩
  rw [← hr]
  unfold typeP at hr
  cases t1 : tk I.M [78] k with
  | true =>
    rw [if_pos t1] at hr
    have HR : Hid (r = _) := hr
    have hp := pass_yes I [78] w R k d h t1 (hE.tk I.M t1 (by decide) h.kn)
    clear hr t1
    go_enter Tryz.func42, Tryz.ntmps42
    go_wp2_with (go_at_call 62; refine hp.mono ?_; rintro e w1 ⟨rfl, h1, hU⟩)
    go_ret
    exact ans_ok HR hU rfl h1
  | false =>
    rw [if_neg (by rw [t1]; simp)] at hr
    have hp := pass_no I [78] w R k d h t1
    clear t1
    cases t2 : tk I.M [66] k with
    | true =>
      rw [if_pos t2] at hr
      have HR : Hid (r = _) := hr
      have hkn := hE.tk I.M t2 (by decide) h.kn
      have HT : Hid (tk I.M [66] k = true) := t2
      clear hr t2
      go_enter Tryz.func42, Tryz.ntmps42
      go_wp2_with fail
      refine hp.mono ?_
      rintro e w1 ⟨rfl, hb1⟩
      go_wp2_with fail
      refine (pass_yes I [66] w1 R k d (h.up hb1) HT hkn).mono ?_
      rintro e w2 ⟨rfl, h1, hU⟩
      go_wp2_with fail
      go_ret
      exact ans_ok HR ((bel_but hb1 R).trans hU) rfl h1
    | false =>
      rw [if_neg (by rw [t2]; simp)] at hr
      have HT : Hid (tk I.M [66] k = false) := t2
      have HR : Hid (r = (mustP I.M [76] k).bind fun _ j => .ok 3 j) := by
        show r = _
        rw [hr]
        unfold mustP
        split <;> rfl
      clear hr t2
      go_enter Tryz.func42, Tryz.ntmps42
      go_wp2_with fail
      refine hp.mono ?_
      rintro e w1 ⟨rfl, hb1⟩
      go_wp2_with fail
      refine (pass_no I [66] w1 R k d (h.up hb1) HT).mono ?_
      rintro e w2 ⟨rfl, hb2⟩
      go_wp2_with fail
      refine (must_any I hE [76] (by decide) w2 R k d ((h.up hb1).up hb2)).mono ?_
      rintro e w3 ⟨hU, ha⟩
      cases hq : mustP I.M [76] k with
      | out => unfold mustP at hq; split at hq <;> cases hq
      | bad y j =>
        rw [hq] at ha
        rw [show e = _ from ha]
        have HR := bind_bad HR hq
        clear ha
        unfold gaveUp
        go_wp2
        exact ⟨rfl, ans_bad HR ((bel_but (Below.thn hb1 hb2) R).trans hU) rfl⟩
      | ok m j =>
        rw [hq] at ha
        obtain ⟨⟨v, rfl, hv⟩, h3⟩ := ha
        subst hv
        have HR := bind_ok HR hq
        go_wp2
        go_ret
        exact ans_ok HR ((bel_but (Below.thn hb1 hb2) R).trans hU) rfl h3

set_option maxHeartbeats 1000000 in
theorem enter_no (I : Rdi) (w : World) (R k d : Nat) (h : Rdr I w R k d) (hd : I.ln ≤ d) :
    Calls Tryz.prog 85 #[.pointer (some ⟨R, 0, none⟩)] w fun e w' => e = gaveUp I 23 k ∧ But R w w' := by
  have h1 := h.up (below_alloc w (.cells mz 42))
  have c5 := h1.blk.cell 5
  have c6 := h1.blk.cell 6
  simp only [List.getElem?_cons_zero, List.getElem?_cons_succ] at c5 c6
  have hdd : decide (I.ln ≤ (d : Int)) = true := decide_eq_true hd
  clear hd
  go_enter Tryz.func85, Tryz.ntmps85
  go_wp2
  go_quiet (fail)
  go_wp2_with fail
  refine (giveUp_any I 23 _ R k d (h1.drewN _)).mono ?_
  rintro e w2 ⟨rfl, hb2⟩
  unfold gaveUp
  go_wp2
  exact ⟨rfl, rfl, ((bel_but (below_alloc w (.cells mz 42)) R).drewN _).then hb2⟩

set_option maxHeartbeats 1000000 in
theorem enter_yes (I : Rdi) (w : World) (R k d : Nat) (h : Rdr I w R k d) (hd : ¬ I.ln ≤ d) (hk : k + 1 < I.n) :
    Calls Tryz.prog 85 #[.pointer (some ⟨R, 0, none⟩)] w fun e w' => e = .returned (mkV (I.M k)) ∧ Rdr I w' R (k + 1) (d + 1) ∧ But R w w' := by
  have hB0 := Bk.new w 42 mz
  have h1 := h.up (below_alloc w (.cells mz 42))
  have hlt := h.lt
  have c5 := h1.blk.cell 5
  have c6 := h1.blk.cell 6
  have f6 := h1.blk.frz 6
  simp only [List.getElem?_cons_zero, List.getElem?_cons_succ] at c5 c6
  have hdd : decide (I.ln ≤ (d : Int)) = false := decide_eq_false hd
  have hd1 : (d : Int) + 1 ≤ 9223372036854775807 := by have := h.lnS; omega
  have hw : wrap64 ((d : Int) + 1) = (d : Int) + 1 := by simp only [wrap64]; omega
  clear hd
  go_enter Tryz.func85, Tryz.ntmps85
  go_wp2
  go_quiet (fail)
  go_wp2_with fail
  refine (take_any I _ R k (d + 1) ((h1.drewN nq).nest (d + 1) (by omega)) hk).mono ?_
  rintro e w2 ⟨rfl, h3, hU2⟩
  have hB1 := ((hB0.drewN nq).but ((But.refl R _).setR (j := 6) (.int .i64 ((d + 1 : Nat) : Int))) (by omega)).but hU2 (by omega)
  have hU3 := (((bel_but (below_alloc w (.cells mz 42)) R).drewN nq).setR (j := 6) (.int .i64 ((d + 1 : Nat) : Int))).trans hU2
  go_wp2_with (refine wpList_storeN rfl 42 (.tmp 2) (.tmp 23) rfl w.heap.size 0 (mkC (I.M k)) rfl rfl hB1 (Nat.le_refl 4) Tryz.infoM (mkC_one _) ?_; intro w4 hB5 ho4; have h6 := h3.oth ho4 (by omega) (by omega); have hU4 := ho4.but hU3 (Nat.le_refl _); obtain ⟨q0, q1, q2, q3⟩ := Bk.four (show Bk w4 w.heap.size _ [_, _, _, _] from hB5))
  refine bodyPost_ret (v := mkV (I.M k)) (by simp [results, Tryz.results85, go_sem, mkV, q0, q1, q2, q3]) rfl ⟨rfl, h6, hU4⟩

set_option maxHeartbeats 1000000 in
theorem leave_any (I : Rdi) (w : World) (R k d : Nat) (h : Rdr I w R k (d + 1)) :
    Calls Tryz.prog 86 #[.pointer (some ⟨R, 0, none⟩)] w fun e w' => e = .returned (.tuple #[]) ∧ Rdr I w' R k d ∧ But R w w' := by
  have c6 := h.blk.cell 6
  have f6 := h.blk.frz 6
  simp only [List.getElem?_cons_zero, List.getElem?_cons_succ] at c6
  have hw : wrap64 (d : Int) = (d : Int) := by
    have := h.dS
    simp only [wrap64]; omega
  go_enter Tryz.func86, Tryz.ntmps86
  go_wp2
  go_end0
  exact ⟨rfl, h.nest d (by have := h.dS; omega), (But.refl R w).setR _⟩
end Go.Proofs.YtkonkplalgoekaaGreatDoor
