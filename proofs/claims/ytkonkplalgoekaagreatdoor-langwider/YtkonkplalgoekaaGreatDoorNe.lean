/-
  What all walks of the parser hold together; the walk of expr.
-/
import Derived.Test.YtkonkplalgoekaaGreatDoorNd
namespace Go.Proofs.YtkonkplalgoekaaGreatDoor
open Go.RowKit
set_option maxRecDepth 100000

def lmOf (I : Rdi) : Lm := ⟨I.lf, I.la, I.ln⟩

/-- The walks of all that reads expressions, with this fuel. -/
structure AllN (I : Rdi) (f : Nat) : Prop where
  expr : ∀ (w : World) (R k d : Nat), Rdr I w R k d → exprP I.M (lmOf I) f d k ≠ .out → Calls Tryz.prog 43 #[.pointer (some ⟨R, 0, none⟩)] w fun e w' => Ans I R d w (exV w.heap.size) (exprP I.M (lmOf I) f d k) e w'
  bind : ∀ (w : World) (R k d : Nat) (op : Int), Rdr I w R k d → k + 1 < I.n → bindP I.M (lmOf I) f op d k ≠ .out → Calls Tryz.prog 64 #[.pointer (some ⟨R, 0, none⟩), .int .i64 op] w fun e w' => Ans I R d w (exV w.heap.size) (bindP I.M (lmOf I) f op d k) e w'
  choice : ∀ (w : World) (R k d : Nat), Rdr I w R k d → k + 1 < I.n → ifP I.M (lmOf I) f d k ≠ .out → Calls Tryz.prog 65 #[.pointer (some ⟨R, 0, none⟩)] w fun e w' => Ans I R d w (exV w.heap.size) (ifP I.M (lmOf I) f d k) e w'
  look : ∀ (w : World) (R k d : Nat), Rdr I w R k d → k + 1 < I.n → caseP I.M (lmOf I) f d k ≠ .out → Calls Tryz.prog 66 #[.pointer (some ⟨R, 0, none⟩)] w fun e w' => Ans I R d w (exV w.heap.size) (caseP I.M (lmOf I) f d k) e w'
  cons : ∀ (w : World) (R k d : Nat), Rdr I w R k d → consP I.M (lmOf I) f d k ≠ .out → Calls Tryz.prog 67 #[.pointer (some ⟨R, 0, none⟩)] w fun e w' => Ans I R d w (exV w.heap.size) (consP I.M (lmOf I) f d k) e w'
  comp : ∀ (w : World) (R k d : Nat), Rdr I w R k d → compP I.M (lmOf I) f d k ≠ .out → Calls Tryz.prog 87 #[.pointer (some ⟨R, 0, none⟩)] w fun e w' => Ans I R d w (exV w.heap.size) (compP I.M (lmOf I) f d k) e w'
  sum : ∀ (w : World) (R k d : Nat), Rdr I w R k d → sumP I.M (lmOf I) f d k ≠ .out → Calls Tryz.prog 105 #[.pointer (some ⟨R, 0, none⟩)] w fun e w' => Ans I R d w (exV w.heap.size) (sumP I.M (lmOf I) f d k) e w'
  term : ∀ (w : World) (R k d : Nat), Rdr I w R k d → termP I.M (lmOf I) f d k ≠ .out → Calls Tryz.prog 119 #[.pointer (some ⟨R, 0, none⟩)] w fun e w' => Ans I R d w (exV w.heap.size) (termP I.M (lmOf I) f d k) e w'
  unit : ∀ (w : World) (R k d : Nat), Rdr I w R k d → unitP I.M (lmOf I) f d k ≠ .out → Calls Tryz.prog 132 #[.pointer (some ⟨R, 0, none⟩)] w fun e w' => Ans I R d w (exV w.heap.size) (unitP I.M (lmOf I) f d k) e w'
  named : ∀ (w : World) (R k d : Nat), Rdr I w R k d → k + 1 < I.n → namedP I.M (lmOf I) f d k ≠ .out → Calls Tryz.prog 143 #[.pointer (some ⟨R, 0, none⟩)] w fun e w' => Ans I R d w (exV w.heap.size) (namedP I.M (lmOf I) f d k) e w'
  worded : ∀ (w : World) (R k d : Nat), Rdr I w R k d → k + 1 < I.n → wordedP I.M (lmOf I) f d k ≠ .out → Calls Tryz.prog 144 #[.pointer (some ⟨R, 0, none⟩)] w fun e w' => Ans I R d w (exV w.heap.size) (wordedP I.M (lmOf I) f d k) e w'
  brack : ∀ (w : World) (R k d : Nat), Rdr I w R k d → brackP I.M (lmOf I) f d k ≠ .out → Calls Tryz.prog 145 #[.pointer (some ⟨R, 0, none⟩)] w fun e w' => Ans I R d w (exV w.heap.size) (brackP I.M (lmOf I) f d k) e w'
  args : ∀ (w : World) (R k d : Nat), Rdr I w R k d → tk I.M [40] k = true → argsP I.M (lmOf I) f d (k + 1) ≠ .out → Calls Tryz.prog 153 #[.pointer (some ⟨R, 0, none⟩)] w fun e w' => Ans I R d w (elV w.heap.size) (argsP I.M (lmOf I) f d (k + 1)) e w'

abbrev ez : Array Value := #[.int .i64 0, .string ⟨#[]⟩, .string ⟨#[]⟩, .int .i64 0, .complex .f64 0 0, .slice none 0 0, .int .i64 0]
theorem Tryz.infoE : (Tryz.prog.info? 50).map (·.size) = some 7 := by kernel_rfl
theorem Tryz.underE : Tryz.prog.underlying 50 = some (.struct (Tryz.prog.underlying 50 |>.map (fun | .struct f => f | _ => #[]) |>.getD #[])) := by kernel_rfl

theorem tk_eq2 (I : Rdi) (s : List UInt8) (k : Nat) {b : Bool} (h : tk I.M s k = b) : ((bs (I.M k).text).toList == s) = b := by rw [bs_toList]; exact h

set_option maxHeartbeats 4000000 in
theorem expr_step (I : Rdi) (hE : Ends I.M I.n) (f : Nat) (ih : AllN I f) (w : World) (R k d : Nat) (h : Rdr I w R k d) (hne : exprP I.M (lmOf I) (f + 1) d k ≠ .out) :
    Calls Tryz.prog 43 #[.pointer (some ⟨R, 0, none⟩)] w fun e w' => Ans I R d w (exV w.heap.size) (exprP I.M (lmOf I) (f + 1) d k) e w' := by
  have hB0 := Bk.new w 50 ez
  have h1 := h.up (below_alloc w (.cells ez 50))
  have hlt := h.lt
  have hf := fun W => (fldM (I.M k) W).2.1
  obtain ⟨r, hr⟩ : ∃ r, r = exprP I.M (lmOf I) (f + 1) d k := ⟨_, rfl⟩
  rw [← hr] at hne ⊢
  rw [exprP] at hr
  cases t0 : tk I.M tLet k with
  | true =>
    rw [if_pos t0] at hr
    have hkn := hE.tk I.M t0 (by decide) h.kn
    have HR : Hid (r = _) := hr
    have e0 := tk_eq2 I tLet k t0
    unfold tLet at e0
    clear hr t0
    go_enter Tryz.func43, Tryz.ntmps43
    go_wp2_with fail
    refine (next_any I _ R k d h1).mono ?_
    rintro e w1 ⟨rfl, hb1⟩
    unfold mkV
    have h2 := h1.up hb1
    have hB1 := hB0.up hb1
    have hl1 := hB1.lt
    have hU1 := bel_but (Below.thn (below_alloc w (.cells ez 50)) hb1) R
    go_wp2_with fail
    refine (ih.bind w1 R k d 21 h2 hkn (by rw [← show r = _ from HR]; exact hne)).mono ?_
    rintro e w2 ⟨hU2, ha⟩
    rw [← show r = _ from HR] at ha
    cases r with
    | out => exact absurd rfl hne
    | bad y j =>
      rw [show e = _ from ha]
      clear ha
      unfold gaveUp
      go_wp2
      exact ⟨rfl, ans_bad rfl (hU1.trans hU2) rfl⟩
    | ok x j =>
      obtain ⟨⟨v, rfl, vs, rfl, hv⟩, h3⟩ := ha
      have hB2 := hB1.but hU2 (by omega)
      have hU3 := hU1.trans hU2
      obtain ⟨x0, x1, x2, x3, x4, x5, x6, rfl⟩ := list7 hv.len
      go_wp2_with (refine wpList_storeN rfl 50 (.tmp 2) (.tmp 9) rfl w.heap.size 0 [x0, x1, x2, x3, x4, x5, x6] rfl rfl hB2 (Nat.le_refl 7) Tryz.infoE hv.one ?_; intro wz hBz hoz)
      have hvz := (hv.oth hoz (by omega)).mono (B' := w.heap.size) (by omega)
      have hrz := h3.oth hoz (by omega) (by omega)
      have hUz := hoz.but hU3 (Nat.le_refl _)
      obtain ⟨q0, q1, q2, q3, q4, q5, q6⟩ := Bk.seven (show Bk wz w.heap.size _ [_, _, _, _, _, _, _] from hBz)
      refine bodyPost_ret (v := .agg #[x0, x1, x2, x3, x4, x5, x6]) (by simp [results, Tryz.results43, go_sem, q0, q1, q2, q3, q4, q5, q6]) rfl (ans_ok rfl hUz ⟨_, rfl, hvz⟩ hrz)
  | false =>
    rw [if_neg (by rw [t0]; simp)] at hr
    have e0 := tk_eq2 I tLet k t0
    unfold tLet at e0
    clear t0
    cases t1 : tk I.M tStrict k with
    | true =>
      rw [if_pos t1] at hr
      have hkn := hE.tk I.M t1 (by decide) h.kn
      have HR : Hid (r = _) := hr
      have e1 := tk_eq2 I tStrict k t1
      unfold tStrict at e1
      clear hr t1
      go_enter Tryz.func43, Tryz.ntmps43
      go_wp2_with fail
      refine (next_any I _ R k d h1).mono ?_
      rintro e w1 ⟨rfl, hb1⟩
      unfold mkV
      have h2 := h1.up hb1
      have hB1 := hB0.up hb1
      have hl1 := hB1.lt
      have hU1 := bel_but (Below.thn (below_alloc w (.cells ez 50)) hb1) R
      go_wp2_with fail
      refine (ih.bind w1 R k d 22 h2 hkn (by rw [← show r = _ from HR]; exact hne)).mono ?_
      rintro e w2 ⟨hU2, ha⟩
      rw [← show r = _ from HR] at ha
      cases r with
      | out => exact absurd rfl hne
      | bad y j =>
        rw [show e = _ from ha]
        clear ha
        unfold gaveUp
        go_wp2
        exact ⟨rfl, ans_bad rfl (hU1.trans hU2) rfl⟩
      | ok x j =>
        obtain ⟨⟨v, rfl, vs, rfl, hv⟩, h3⟩ := ha
        have hB2 := hB1.but hU2 (by omega)
        have hU3 := hU1.trans hU2
        obtain ⟨x0, x1, x2, x3, x4, x5, x6, rfl⟩ := list7 hv.len
        go_wp2_with (refine wpList_storeN rfl 50 (.tmp 2) (.tmp 13) rfl w.heap.size 0 [x0, x1, x2, x3, x4, x5, x6] rfl rfl hB2 (Nat.le_refl 7) Tryz.infoE hv.one ?_; intro wz hBz hoz)
        have hvz := (hv.oth hoz (by omega)).mono (B' := w.heap.size) (by omega)
        have hrz := h3.oth hoz (by omega) (by omega)
        have hUz := hoz.but hU3 (Nat.le_refl _)
        obtain ⟨q0, q1, q2, q3, q4, q5, q6⟩ := Bk.seven (show Bk wz w.heap.size _ [_, _, _, _, _, _, _] from hBz)
        refine bodyPost_ret (v := .agg #[x0, x1, x2, x3, x4, x5, x6]) (by simp [results, Tryz.results43, go_sem, q0, q1, q2, q3, q4, q5, q6]) rfl (ans_ok rfl hUz ⟨_, rfl, hvz⟩ hrz)
    | false =>
      rw [if_neg (by rw [t1]; simp)] at hr
      have e1 := tk_eq2 I tStrict k t1
      unfold tStrict at e1
      clear t1
      cases t2 : tk I.M tIf k with
      | true =>
        rw [if_pos t2] at hr
        have hkn := hE.tk I.M t2 (by decide) h.kn
        have HR : Hid (r = _) := hr
        have e2 := tk_eq2 I tIf k t2
        unfold tIf at e2
        clear hr t2
        go_enter Tryz.func43, Tryz.ntmps43
        go_wp2_with fail
        refine (next_any I _ R k d h1).mono ?_
        rintro e w1 ⟨rfl, hb1⟩
        unfold mkV
        have h2 := h1.up hb1
        have hB1 := hB0.up hb1
        have hl1 := hB1.lt
        have hU1 := bel_but (Below.thn (below_alloc w (.cells ez 50)) hb1) R
        go_wp2_with fail
        refine (ih.choice w1 R k d h2 hkn (by rw [← show r = _ from HR]; exact hne)).mono ?_
        rintro e w2 ⟨hU2, ha⟩
        rw [← show r = _ from HR] at ha
        cases r with
        | out => exact absurd rfl hne
        | bad y j =>
          rw [show e = _ from ha]
          clear ha
          unfold gaveUp
          go_wp2
          exact ⟨rfl, ans_bad rfl (hU1.trans hU2) rfl⟩
        | ok x j =>
          obtain ⟨⟨v, rfl, vs, rfl, hv⟩, h3⟩ := ha
          have hB2 := hB1.but hU2 (by omega)
          have hU3 := hU1.trans hU2
          obtain ⟨x0, x1, x2, x3, x4, x5, x6, rfl⟩ := list7 hv.len
          go_wp2_with (refine wpList_storeN rfl 50 (.tmp 2) (.tmp 17) rfl w.heap.size 0 [x0, x1, x2, x3, x4, x5, x6] rfl rfl hB2 (Nat.le_refl 7) Tryz.infoE hv.one ?_; intro wz hBz hoz)
          have hvz := (hv.oth hoz (by omega)).mono (B' := w.heap.size) (by omega)
          have hrz := h3.oth hoz (by omega) (by omega)
          have hUz := hoz.but hU3 (Nat.le_refl _)
          obtain ⟨q0, q1, q2, q3, q4, q5, q6⟩ := Bk.seven (show Bk wz w.heap.size _ [_, _, _, _, _, _, _] from hBz)
          refine bodyPost_ret (v := .agg #[x0, x1, x2, x3, x4, x5, x6]) (by simp [results, Tryz.results43, go_sem, q0, q1, q2, q3, q4, q5, q6]) rfl (ans_ok rfl hUz ⟨_, rfl, hvz⟩ hrz)
      | false =>
        rw [if_neg (by rw [t2]; simp)] at hr
        have e2 := tk_eq2 I tIf k t2
        unfold tIf at e2
        clear t2
        cases t3 : tk I.M tCase k with
        | true =>
          rw [if_pos t3] at hr
          have hkn := hE.tk I.M t3 (by decide) h.kn
          have HR : Hid (r = _) := hr
          have e3 := tk_eq2 I tCase k t3
          unfold tCase at e3
          clear hr t3
          go_enter Tryz.func43, Tryz.ntmps43
          go_wp2_with fail
          refine (next_any I _ R k d h1).mono ?_
          rintro e w1 ⟨rfl, hb1⟩
          unfold mkV
          have h2 := h1.up hb1
          have hB1 := hB0.up hb1
          have hl1 := hB1.lt
          have hU1 := bel_but (Below.thn (below_alloc w (.cells ez 50)) hb1) R
          go_wp2_with fail
          refine (ih.look w1 R k d h2 hkn (by rw [← show r = _ from HR]; exact hne)).mono ?_
          rintro e w2 ⟨hU2, ha⟩
          rw [← show r = _ from HR] at ha
          cases r with
          | out => exact absurd rfl hne
          | bad y j =>
            rw [show e = _ from ha]
            clear ha
            unfold gaveUp
            go_wp2
            exact ⟨rfl, ans_bad rfl (hU1.trans hU2) rfl⟩
          | ok x j =>
            obtain ⟨⟨v, rfl, vs, rfl, hv⟩, h3⟩ := ha
            have hB2 := hB1.but hU2 (by omega)
            have hU3 := hU1.trans hU2
            obtain ⟨x0, x1, x2, x3, x4, x5, x6, rfl⟩ := list7 hv.len
            go_wp2_with (refine wpList_storeN rfl 50 (.tmp 2) (.tmp 21) rfl w.heap.size 0 [x0, x1, x2, x3, x4, x5, x6] rfl rfl hB2 (Nat.le_refl 7) Tryz.infoE hv.one ?_; intro wz hBz hoz)
            have hvz := (hv.oth hoz (by omega)).mono (B' := w.heap.size) (by omega)
            have hrz := h3.oth hoz (by omega) (by omega)
            have hUz := hoz.but hU3 (Nat.le_refl _)
            obtain ⟨q0, q1, q2, q3, q4, q5, q6⟩ := Bk.seven (show Bk wz w.heap.size _ [_, _, _, _, _, _, _] from hBz)
            refine bodyPost_ret (v := .agg #[x0, x1, x2, x3, x4, x5, x6]) (by simp [results, Tryz.results43, go_sem, q0, q1, q2, q3, q4, q5, q6]) rfl (ans_ok rfl hUz ⟨_, rfl, hvz⟩ hrz)
        | false =>
          rw [if_neg (by rw [t3]; simp)] at hr
          have e3 := tk_eq2 I tCase k t3
          unfold tCase at e3
          clear t3
          have HR : Hid (r = _) := hr
          clear hr
          go_enter Tryz.func43, Tryz.ntmps43
          go_wp2_with fail
          refine (next_any I _ R k d h1).mono ?_
          rintro e w1 ⟨rfl, hb1⟩
          unfold mkV
          have h2 := h1.up hb1
          have hB1 := hB0.up hb1
          have hl1 := hB1.lt
          have hU1 := bel_but (Below.thn (below_alloc w (.cells ez 50)) hb1) R
          go_wp2_with fail
          refine (ih.cons w1 R k d h2 (by rw [← show r = _ from HR]; exact hne)).mono ?_
          rintro e w2 ⟨hU2, ha⟩
          rw [← show r = _ from HR] at ha
          cases r with
          | out => exact absurd rfl hne
          | bad y j =>
            rw [show e = _ from ha]
            clear ha
            unfold gaveUp
            go_wp2
            exact ⟨rfl, ans_bad rfl (hU1.trans hU2) rfl⟩
          | ok x j =>
            obtain ⟨⟨v, rfl, vs, rfl, hv⟩, h3⟩ := ha
            have hB2 := hB1.but hU2 (by omega)
            have hU3 := hU1.trans hU2
            obtain ⟨x0, x1, x2, x3, x4, x5, x6, rfl⟩ := list7 hv.len
            go_wp2_with (refine wpList_storeN rfl 50 (.tmp 2) (.tmp 23) rfl w.heap.size 0 [x0, x1, x2, x3, x4, x5, x6] rfl rfl hB2 (Nat.le_refl 7) Tryz.infoE hv.one ?_; intro wz hBz hoz)
            have hvz := (hv.oth hoz (by omega)).mono (B' := w.heap.size) (by omega)
            have hrz := h3.oth hoz (by omega) (by omega)
            have hUz := hoz.but hU3 (Nat.le_refl _)
            obtain ⟨q0, q1, q2, q3, q4, q5, q6⟩ := Bk.seven (show Bk wz w.heap.size _ [_, _, _, _, _, _, _] from hBz)
            refine bodyPost_ret (v := .agg #[x0, x1, x2, x3, x4, x5, x6]) (by simp [results, Tryz.results43, go_sem, q0, q1, q2, q3, q4, q5, q6]) rfl (ans_ok rfl hUz ⟨_, rfl, hvz⟩ hrz)
end Go.Proofs.YtkonkplalgoekaaGreatDoor
