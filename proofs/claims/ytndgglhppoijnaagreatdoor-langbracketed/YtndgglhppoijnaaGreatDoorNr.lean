/-
  The walk of cons.
-/
import Derived.Test.YtndgglhppoijnaaGreatDoorUK
namespace Go.Proofs.YtndgglhppoijnaaGreatDoor
open Go.RowKit
set_option maxRecDepth 100000

/-- Heads and signs read in memory, but for block gO. -/
def Rd3 (hs : List Ex) (ss : List Mk) (ao3 ao4 : Option Addr) (B gO : Nat) (W : World) : Prop :=
  ∀ j (hj : j < hs.length), ∃ g3 g4 vs, ao3 = some ⟨g3, 0, none⟩ ∧ ao4 = some ⟨g4, 0, none⟩ ∧ g3 ≠ gO ∧ g4 ≠ gO ∧ W.rangeAt g3 (j * 7) vs ∧ ExW W (fun b => B ≤ b ∧ b ≠ gO) hs[j] vs ∧ M4 W g4 (j * 4) (ss.getD j md)

theorem Rd3.but {hs : List Ex} {ss : List Mk} {ao3 ao4 : Option Addr} {B gO : Nat} {W W' : World} (h : Rd3 hs ss ao3 ao4 B gO W) (hU : But gO W W') : Rd3 hs ss ao3 ao4 B gO W' := by
  intro j hj
  obtain ⟨g3, g4, vs, e3, e4, n3, n4, h1, h2, h3⟩ := h j hj
  exact ⟨g3, g4, vs, e3, e4, n3, n4, range_but h1 (by intro e; have := h2.len; rw [e] at this; simp at this) hU n3, h2.keep fun b hb hl => hU.block b hl hb.2, h3.but hU n4⟩

theorem oth_but2 {g : Nat} {w w' : World} (h : Oth g w w') : But g w w' := ⟨h.os, h.tape, h.output, Nat.le_of_eq h.size.symm, fun k _ hn => h.block k hn⟩

theorem cfold_at {hs : List Ex} {ss : List Mk} {j : Nat} (hj : j < hs.length) (hl : hs.length = ss.length) (x : Ex) : cfold (hs.take (j + 1)) (ss.take (j + 1)) x = cfold (hs.take j) (ss.take j) (two 18 hs[j] x (ss.getD j md)) := by
  have hj' : j < ss.length := by omega
  rw [List.take_succ_eq_append_getElem hj, List.take_succ_eq_append_getElem hj', cfold_snoc _ _ _ _ _ (by simp; omega), List.getD_eq_getElem?_getD, List.getElem?_eq_getElem hj']
  rfl

set_option maxHeartbeats 8000000 in
theorem cons_step (I : Rdi) (hE : Ends I.M I.n) (f : Nat) (ihs : ∀ g, g ≤ f → AllN I g) (w : World) (R k d : Nat) (h : Rdr I w R k d) (hne : consP I.M (lmOf I) (f + 1) d k ≠ .out) :
    Calls Tryz.prog 78 #[.pointer (some ⟨R, 0, none⟩)] w fun e w' => Ans I R d w (exV w.heap.size) (consP I.M (lmOf I) (f + 1) d k) e w' := by
  obtain ⟨r, hr⟩ : ∃ r, r = consP I.M (lmOf I) (f + 1) d k := ⟨_, rfl⟩
  rw [← hr] at hne ⊢
  have HR0 : Hid (r = (consP I.M (lmOf I) (f + 1) d k).bind fun b k2 => .ok (cfold [] [] b) k2) := by
    show r = _
    rw [hr]
    cases consP I.M (lmOf I) (f + 1) d k <;> rfl
  clear hr
  have hB0 := Bk.new w 41 ez
  have hlt := h.lt
  have hb0 := below_alloc w (.cells ez 41)
  have h1 := h.up hb0
  have hU1 := bel_but hb0 R
  go_enter Tryz.func78, Tryz.ntmps78
  go_wp2
  refine wp_scope_key 0 (CJ I f w R d (fun g hs ss j => Hid (r = (consP I.M (lmOf I) g d j).bind fun b k2 => .ok (cfold hs ss b) k2))) (fun _ w' => I.n - posOf R w') rfl (fun hkey => ?_) ?_
  · go_wp2_with fail
    refine wp_label ?_
    rename_i K hK
    exact hK _ _ (hkey _ _ (CJ.mk k (f + 1) [] [] h1 hU1 hB0 (Hs.nil _ _) rfl (Nat.zero_le _) (Nat.le_refl _) HR0))
  · rintro _ w3 ⟨U, v3, v4, hs, ss, k1, g, rfl, h3, hU3, hB3, hH, hls, hlk, hg0, HR⟩
    have hcx := store_cx
    have HLS : Hid (hs.length = ss.length) := hls
    clear hB0 h1 hU1 hb0 HR0 hls
    go_wp2_with fail
    cases g with
    | zero => exact absurd ((show r = _ from HR).trans (by rw [consP]; rfl)) hne
    | succ g =>
      have hg : g ≤ f := by omega
      have HR : Hid (r = (compP I.M (lmOf I) g d k1).bind fun a k2 => if tk I.M [58] k2 = true then (consP I.M (lmOf I) g d (k2 + 1)).bind fun b k3 => .ok (cfold (hs ++ [a]) (ss ++ [I.M k2]) b) k3 else .ok (cfold hs ss a) k2) := by
        show r = _
        rw [show r = _ from HR, consP]
        cases compP I.M (lmOf I) g d k1 with
        | out => rfl
        | bad y j => rfl
        | ok a k2 =>
          show Rs.bind (if _ then _ else _) _ = if _ then _ else _
          split
          · cases consP I.M (lmOf I) g d (k2 + 1) with
            | out => rfl
            | bad y j => rfl
            | ok b k3 =>
              show Rs.ok _ _ = Rs.ok _ _
              rw [cfold_snoc hs ss a (I.M k2) b HLS]
          · rfl
      have hn4 := bind_ne HR hne
      have hp3 := h3.pos
      refine ((ihs g hg).comp w3 R k1 d h3 hn4).mono ?_
      rintro e w4 ⟨hV4, ha⟩
      cases hq4 : compP I.M (lmOf I) g d k1 with
      | out => exact absurd hq4 hn4
      | bad y j =>
        rw [hq4] at ha
        rw [show e = _ from ha]
        have HR := bind_bad HR hq4
        clear ha hq4
        unfold gaveUp
        go_wp2
        exact ⟨rfl, ans_bad HR (hU3.trans hV4) rfl⟩
      | ok a k2 =>
        rw [hq4] at ha
        obtain ⟨⟨v, rfl, vs, rfl, hxa⟩, h4⟩ := ha
        obtain ⟨a0, a1, a2, a3, a4, a5, a6, rfl⟩ := list7 hxa.len
        have HR := bind_ok HR hq4
        have hk2 : k1 ≤ k2 := by have := (allGe I.M (lmOf I) g).compP d k1; rw [hq4] at this; exact this
        clear hq4 hn4
        have hw3 := hB3.lt
        have hH4 := Hs.but (show Hs w3 _ v3 v4 hs ss from hH) hV4 (by omega)
        have hU4 := hU3.trans hV4
        have hB4 := hB3.but hV4 (by omega)
        have hw4 := hB4.lt
        have hL := Bk.new w4 41 ez
        have hlow3 := owns_has (show Hs w3 _ v3 v4 hs ss from hH).cs.choose_spec.1
        have hlow4 := owns_has (show Hs w3 _ v3 v4 hs ss from hH).sg
        have hxa4 : ExW w4 (fun b => w.heap.size + 1 ≤ b ∧ v3.ownBlock ≠ some b ∧ v4.ownBlock ≠ some b) a [a0, a1, a2, a3, a4, a5, a6] := hxa.imp fun b hb _ => ⟨by omega, fun e => by have := (hlow3 b e).2; omega, fun e => by have := (hlow4 b e).2; omega⟩
        have H4 : Hid (Hs w4 (w.heap.size + 1) v3 v4 hs ss) := hH4
        have X4 : Hid (ExW w4 (fun b => w.heap.size + 1 ≤ b ∧ v3.ownBlock ≠ some b ∧ v4.ownBlock ≠ some b) a [a0, a1, a2, a3, a4, a5, a6]) := hxa4
        have h1c := hxa.one
        clear hH hH4 hxa hxa4 hlow3 hlow4
        go_wp2_with (refine wpList_storeN rfl 41 (.tmp 5) (.tmp 8) rfl w4.heap.size 0 [a0, a1, a2, a3, a4, a5, a6] rfl rfl hL (Nat.le_refl 7) Tryz.infoE h1c ?_; intro w5 hM5 ho5)
        have hb5 := (below_alloc w4 (.cells ez 41)).trans (ho5.below (Nat.le_refl _))
        have hL5 : Bk w5 w4.heap.size 41 [a0, a1, a2, a3, a4, a5, a6] := hM5
        have h5 := h4.up hb5
        have hst := stands_any I [58] w5 R k2 d h5
        cases t1 : tk I.M [58] k2 with
        | true =>
          have hkn := hE.tk I.M t1 (by decide) h4.kn
          have HR : Hid (r = (consP I.M (lmOf I) g d (k2 + 1)).bind fun b k3 => .ok (cfold (hs ++ [a]) (ss ++ [I.M k2]) b) k3) := by
            show r = _
            rw [show r = _ from HR, if_pos t1]
          rw [t1] at hst
          clear t1
          refine hst.mono ?_
          rintro e w6 ⟨rfl, hb6⟩
          have h6 := h5.up hb6
          have q6 := Below.thn hb5 hb6
          have hU6 := hU4.then q6
          have hB6 := hB4.up q6
          have hL6 := hL5.up hb6
          have hw6 := hB6.lt
          have hs6 := h6.small
          have hk6 := h6.kn
          obtain ⟨v3', w7, r7, H7, g7⟩ := Hs.app ((show Hs w4 _ v3 v4 hs ss from H4).up q6) (by omega) (ExW.up (show ExW w4 _ a _ from X4) q6) (by omega)
          have hb7 : Below (w.heap.size + 1) w6 w7 := (Below.refl _ w6).grown g7 (by omega) fun j hj => (owns_has ((show Hs w4 _ v3 v4 hs ss from H4).up q6).cs.choose_spec.1 j hj).1
          have h7 := h6.low hb7 (by omega) (by omega)
          have hU7 := hU6.low (hb7.mono (Nat.le_succ _))
          have hB7 : Bk w7 w.heap.size 41 [.int .i64 0, .string ⟨#[]⟩, .string ⟨#[]⟩, .int .i64 0, .complex .f64 0 0, .slice none 0 0, .int .i64 0] := by unfold Bk; rw [hb7.block _ (Nat.lt_succ_self _)]; exact hB6
          have R7 : Hid (_ = _) := r7
          have HH7 : Hid (Hs w7 (w.heap.size + 1) v3' v4 (hs ++ [a]) ss) := H7
          clear hst h1c r7 g7 hb7 H4 X4 hB4 hB6 h5 hL5 hM5 hL q6 hb5 hb6 hU6 H7
          go_wp2_with (first
            | refine wpList_loadN rfl 41 (.tmp 5) rfl w4.heap.size 0 rfl [a0, a1, a2, a3, a4, a5, a6] _ (hL6.range 0 7) Tryz.underE Tryz.infoE ?_
            | (at_builtin; refine wpList_append_run rfl (.tmp 11) (.tmp 13) 39 rfl rfl _ _ rfl rfl _ _ (show _ = _ from R7) ?_))
          refine (take_any I w7 R k2 d h7 hkn).mono ?_
          rintro e w8 ⟨rfl, h8, hV8⟩
          unfold mkV
          have hw7 := hB7.lt
          have hU8 := hU7.trans hV8
          have hB8 := hB7.but hV8 (by omega)
          have hw8 := hB8.lt
          obtain ⟨v4', w9, r9, H9, g9⟩ := Hs.sign (I.M k2) (Hs.but (show Hs w7 _ v3' v4 _ ss from HH7) hV8 (by omega)) (by omega) (by have := (show hs.length = ss.length from HLS); omega)
          have hb9 : Below (w.heap.size + 1) w8 w9 := (Below.refl _ w8).grown g9 (by omega) fun j hj => (owns_has (Hs.but (show Hs w7 _ v3' v4 _ ss from HH7) hV8 (by omega)).sg j hj).1
          have h9 := h8.low hb9 (by omega) (by omega)
          have hU9 := hU8.low (hb9.mono (Nat.le_succ _))
          have hB9 : Bk w9 w.heap.size 41 [.int .i64 0, .string ⟨#[]⟩, .string ⟨#[]⟩, .int .i64 0, .complex .f64 0 0, .slice none 0 0, .int .i64 0] := by unfold Bk; rw [hb9.block _ (Nat.lt_succ_self _)]; exact hB8
          have R9 : Hid (_ = _) := r9
          have HH9 : Hid (Hs w9 (w.heap.size + 1) v3' v4' (hs ++ [a]) (ss ++ [I.M k2])) := H9
          have hp9 := h9.pos
          clear r9 H9 g9 hb9 HH7 R7 hL6 hV8 hB8 hB7
          go_wp2_with (at_builtin; refine wpList_append_run rfl (.tmp 15) (.tmp 18) 60 rfl rfl _ _ rfl rfl _ _ (show _ = _ from R9) ?_)
          go_step3
          exact ⟨rfl, CJ.mk (k2 + 1) g (hs ++ [a]) (ss ++ [I.M k2]) h9 hU9 hB9 HH9 (by rw [List.length_append, List.length_append, show hs.length = ss.length from HLS]; rfl) (by simp; omega) (by omega) HR, by rw [hp9, hp3]; omega⟩
        | false =>
          have HR : Hid (r = .ok (cfold hs ss a) k2) := by
            show r = _
            rw [show r = _ from HR, if_neg (by rw [t1]; simp)]
          rw [t1] at hst
          clear t1
          have hs4 := h4.small
          have hk4 := h4.kn
          obtain ⟨ao3, c3, rfl, hd3⟩ := Hs.head (show Hs w4 _ v3 v4 hs ss from H4)
          obtain ⟨ao4, c4, rfl, hd4⟩ := Hs.signs (show Hs w4 _ _ v4 hs ss from H4)
          have rd4 : Rd3 hs ss ao3 ao4 (w.heap.size + 1) w4.heap.size w4 := by
            intro j hj
            have hne3 : hs ≠ [] := by intro e; rw [e] at hj; simp at hj
            have hne4 : ss ≠ [] := by intro e; have := (show hs.length = ss.length from HLS); rw [e] at this; simp at this; exact hne3 this
            obtain ⟨g3, e3, b3, l3, f3⟩ := hd3 hne3
            obtain ⟨g4, e4, b4, l4, f4⟩ := hd4 hne4
            obtain ⟨vs, p1, p2⟩ := f3 j hj
            exact ⟨g3, g4, vs, e3, e4, by omega, by omega, p1, p2.imp fun b hb hl => ⟨hb, by omega⟩, f4 j (by have := (show hs.length = ss.length from HLS); omega)⟩
          refine hst.mono ?_
          rintro e w6 ⟨rfl, hb6⟩
          have h6 := h5.up hb6
          have q6 := Below.thn hb5 hb6
          have hU6 := hU4.then q6
          have hB6 := hB4.up q6
          have hL6 := hL5.up hb6
          have hx6 : ExW w6 (fun b => w.heap.size + 1 ≤ b ∧ b ≠ w4.heap.size) a [a0, a1, a2, a3, a4, a5, a6] := ((show ExW w4 _ a _ from X4).imp (A' := fun b => w.heap.size + 1 ≤ b ∧ b ≠ w4.heap.size) fun b hb hl => ⟨hb.1, by omega⟩).up q6
          have RD6 : Hid (Rd3 hs ss ao3 ao4 (w.heap.size + 1) w4.heap.size w6) := rd4.but (bel_but q6 _)
          have HR6 : Hid (r = .ok (cfold (hs.take hs.length) (ss.take hs.length) a) k2) := by
            show r = _
            rw [show r = _ from HR, List.take_length]
            conv => rhs; rw [show hs.length = ss.length from HLS, List.take_length]
          have hwz : IntKind.i64.wrap ((hs.length : Int) - 1) = (hs.length : Int) - 1 := by rw [IntKind.wrap_i64]; omega
          obtain ⟨gO, hgO⟩ : ∃ gO, gO = w4.heap.size := ⟨_, rfl⟩
          rw [← hgO] at hL6 hx6 RD6 hw4 ⊢
          clear hst h1c H4 X4 hB4 h5 hL5 hM5 hL q6 hb5 hb6 HR rd4 hd3 hd4 hgO ho5 h4 hV4 hU4
          go_wp2
          go_loopw [6] (fun i wr => ∃ (j : Nat) (z : Int) (x : Ex) (vs : List Value), j ≤ hs.length ∧ i = .int .i64 z ∧ z = (j : Int) - 1 ∧ Bk wr gO 41 vs ∧ ExW wr (fun b => w.heap.size + 1 ≤ b ∧ b ≠ gO) x vs ∧ Hid (Rd3 hs ss ao3 ao4 (w.heap.size + 1) gO wr) ∧ Rdr I wr R k2 d ∧ But R w wr ∧ Bk wr w.heap.size 41 [.int .i64 0, .string ⟨#[]⟩, .string ⟨#[]⟩, .int .i64 0, .complex .f64 0 0, .slice none 0 0, .int .i64 0] ∧ Hid (r = .ok (cfold (hs.take j) (ss.take j) x) k2)) (fun i _ => (intOf i + 1).toNat)
          case atStart => exact ⟨hs.length, _, a, _, Nat.le_refl _, rfl, rfl, hL6, hx6, RD6, h6, hU6, hB6, HR6⟩
          case round =>
            clear hL6 hx6 RD6 h6 hU6 hB6 HR6 h3 hU3 hB3
            obtain ⟨j, z, x, vs, hj, rfl, hz, hLr, hxr, RDr, hr, hUr, hBr, HRr⟩ := hrel
            obtain ⟨y0, y1, y2, y3, y4, y5, y6, rfl⟩ := list7 hxr.len
            cases j with
            | zero =>
              have hz1 : z = -1 := by omega
              subst hz1
              have HR7 : Hid (r = .ok x k2) := by show r = _; rw [show r = _ from HRr]; rfl
              clear hz HRr RDr
              go_wp2_with (first
                | refine wpList_loadN rfl 41 (.tmp 5) rfl gO 0 rfl [y0, y1, y2, y3, y4, y5, y6] _ (hLr.range 0 7) Tryz.underE Tryz.infoE ?_
                | (refine wpList_storeN rfl 41 (.tmp 2) (.tmp 37) rfl w.heap.size 0 [y0, y1, y2, y3, y4, y5, y6] rfl rfl hBr (Nat.le_refl 7) Tryz.infoE hxr.one ?_; intro wz hBz hoz))
              have hvz : ExV wz w.heap.size x _ := (hxr.oth2 hoz fun b hb => by omega).imp fun b hb _ => by omega
              have hrz := hr.oth hoz (by omega) (by omega)
              have hUz := hoz.but hUr (Nat.le_refl _)
              obtain ⟨q0, q1, q2, q3, q4, q5, q6⟩ := Bk.seven (show Bk wz w.heap.size _ [_, _, _, _, _, _, _] from hBz)
              refine bodyPost_ret (v := .agg #[y0, y1, y2, y3, y4, y5, y6]) (by simp [results, Tryz.results78, go_sem, q0, q1, q2, q3, q4, q5, q6]) rfl (ans_ok HR7 hUz ⟨_, rfl, hvz⟩ hrz)
            | succ j =>
              have hz1 : z = (j : Int) := by omega
              subst hz1
              have hjl : j < hs.length := by omega
              have HR7 : Hid (r = .ok (cfold (hs.take j) (ss.take j) (two 18 hs[j] x (ss.getD j md))) k2) := by show r = _; rw [show r = _ from HRr, cfold_at hjl HLS]
              obtain ⟨g3, g4, us, e3, e4, n3, n4, p1, p2, p3⟩ := (show Rd3 _ _ _ _ _ _ wr from RDr) j hjl
              subst e3
              subst e4
              obtain ⟨u0, u1, u2, u3, u4, u5, u6, rfl⟩ := list7 p2.len
              have hjs : j < ss.length := by have := (show hs.length = ss.length from HLS); omega
              obtain ⟨xh, hxh⟩ : ∃ xh, xh = hs[j] := ⟨_, rfl⟩
              obtain ⟨m, hm⟩ : ∃ m, m = ss.getD j md := ⟨_, rfl⟩
              rw [← hxh] at p2 HR7
              rw [← hm] at p3 HR7
              obtain ⟨s0, s1, s2, s3⟩ := p3
              have d0 := p1 0 u0 rfl
              have d1 := p1 1 u1 rfl
              have d2 := p1 2 u2 rfl
              have d3 := p1 3 u3 rfl
              have d4 := p1 4 u4 rfl
              have d5 := p1 5 u5 rfl
              have d6 := p1 6 u6 rfl
              rw [Nat.add_zero] at d0
              obtain ⟨o0, o1, o2, o3, o4, o5, o6⟩ := hLr.seven
              have hwj : IntKind.i64.wrap ((j : Int) - 1) = (j : Int) - 1 := by rw [IntKind.wrap_i64]; omega
              have hgl := hLr.lt
              have HSL : Hid (j < ss.length) := hjs
              have hjs2 : j < hs.length := hjl
              rw [show hs.length = ss.length from HLS] at *
              clear hz HRr hm hxh p1
              have hbl := hBr.lt
              have hbA : ∀ b, (World.drew wr).heap.size ≤ b → w.heap.size + 1 ≤ b ∧ b ≠ gO := fun b hb => by
                have h1 : wr.heap.size ≤ b := hb
                exact ⟨by omega, by omega⟩
              have hbo := both_any 18 m xh x _ _ (fun b => w.heap.size + 1 ≤ b ∧ b ≠ gO) (World.drew wr) (p2.up (Below.refl _ wr).drew) (hxr.up (Below.refl _ wr).drew) hbA
              unfold mkV at hbo
              go_wp2
              go_region_with (go_at_call 108; refine hbo.mono ?_; rintro e w7 ⟨A, rfl, hA, hxt, hb7⟩; have q7 := Below.thn (Below.refl _ wr).drew hb7; have h7 := hr.up q7; have hU7 := hUr.then q7; have hB7 := hBr.up q7; have hL7 := hLr.up q7; have RD7 : Hid (Rd3 hs ss _ _ (w.heap.size + 1) gO w7) := Rd3.but (show Rd3 _ _ _ _ _ _ wr from RDr) (bel_but q7 _); obtain ⟨w8, hst, hL8, ho8⟩ := store_run hL7 A hA hxt.one)
              all_goals
                go_wp2
                go_roundw
                case rel => exact ⟨j, _, two 18 xh x m, A.toList, by omega, rfl, rfl, hL8, hxt.oth2 ho8 (fun b hb => hb.2), Rd3.but (show Rd3 _ _ _ _ _ _ w7 from RD7) (oth_but2 ho8), h7.oth ho8 (by omega) (by omega), ho8.but hU7 (by omega), hB7.oth ho8 (by omega), HR7⟩
                case measure => simp [intOf]
end Go.Proofs.YtndgglhppoijnaaGreatDoor
