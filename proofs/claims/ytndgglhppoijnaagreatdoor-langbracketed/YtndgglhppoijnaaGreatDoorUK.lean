/-
  2 texts in one: what each proves stands at its head.
-/
import Derived.Test.YtndgglhppoijnaaGreatDoorNg
import Derived.Test.YtndgglhppoijnaaGreatDoorNi
import Derived.Test.YtndgglhppoijnaaGreatDoorUH
import Derived.Laws.AppendOwn
/-
  Rows of expressions that are appended to; the walk of arguments.
-/
namespace Go.Proofs.YtndgglhppoijnaaGreatDoor
open Go.RowKit
set_option maxRecDepth 100000

/-- These cells are these expressions, one behind the other. -/
inductive LsW (w : World) (A : Nat → Prop) : List Ex → List Value → Prop
  | nil : LsW w A [] []
  | cons {x : Ex} {vs : List Value} {xs : List Ex} {cs : List Value} : ExW w A x vs → LsW w A xs cs → LsW w A (x :: xs) (vs ++ cs)

theorem LsW.snoc {w : World} {A : Nat → Prop} {x : Ex} {vs : List Value} (hx : ExW w A x vs) : ∀ {xs : List Ex} {cs : List Value}, LsW w A xs cs → LsW w A (xs ++ [x]) (cs ++ vs)
  | _, _, .nil => by
    have := LsW.cons hx LsW.nil
    simpa using this
  | _, _, .cons h hs => by
    rw [List.append_assoc]
    exact .cons h (hs.snoc hx)
theorem LsW.keep {w w' : World} {A : Nat → Prop} (hb : ∀ b, A b → b < w.heap.size → w'.heap[b]? = w.heap[b]?) : ∀ {xs : List Ex} {cs : List Value}, LsW w A xs cs → LsW w' A xs cs
  | _, _, .nil => .nil
  | _, _, .cons h hs => .cons (h.keep hb) (hs.keep hb)
theorem LsW.imp {w : World} {A A' : Nat → Prop} (hb : ∀ b, A b → b < w.heap.size → A' b) : ∀ {xs : List Ex} {cs : List Value}, LsW w A xs cs → LsW w A' xs cs
  | _, _, .nil => .nil
  | _, _, .cons h hs => .cons (h.imp hb) (hs.imp hb)
theorem LsW.el {w : World} {A A' : Nat → Prop} {g : Nat} (hg : A' g) (hA : ∀ b, A b → A' b) : ∀ {xs : List Ex} {cs : List Value} (off : Nat), LsW w A xs cs → w.rangeAt g off cs → ElW w A' (some ⟨g, off, none⟩) xs
  | _, _, _, .nil, _ => .nil
  | _, _, off, .cons h hs, hr => by
    have hl := h.len
    refine .cons hg (fun j v hv => hr j v ?_) (h.imp fun b hb _ => hA b hb) (hs.el hg hA (off + 7) fun j v hv => ?_)
    · rw [List.getElem?_append_left (List.getElem?_eq_some_iff.1 hv).1]; exact hv
    · have := hr (7 + j) v (by rw [List.getElem?_append_right (by omega), hl, show 7 + j - 7 = j by omega]; exact hv)
      rw [show off + 7 + j = off + (7 + j) by omega]
      exact this

theorem Tryz.infoEx : (Tryz.prog.info? 41).map (fun i => (i.zero, i.size, i.bytes)) = some (some (.agg ez), 7, 96) := by kernel_rfl
theorem Tryz.underEs : Tryz.prog.underlying 39 = some (.slice 41) := by kernel_rfl

/-- A row of expressions of the call's own: which, and where they lie. -/
structure Row (w : World) (B : Nat) (v : Value) (xs : List Ex) : Prop where
  cs : ∃ cs, w.ownsRow B 41 7 v xs.length cs ∧ LsW w (fun b => B ≤ b ∧ v.ownBlock ≠ some b) xs cs

theorem Row.low {w : World} {B : Nat} {v : Value} {xs : List Ex} (h : Row w B v xs) : ∀ k, v.ownBlock = some k → B ≤ k ∧ k < w.heap.size := by
  obtain ⟨cs, h1, _⟩ := h.cs
  intro k hk
  rcases h1.2 with ⟨rfl, _⟩ | ⟨g, cap, cur, rfl, h2, h3, _⟩
  · simp [Value.ownBlock] at hk
  · simp [Value.ownBlock] at hk
    subst hk
    refine ⟨h2, ?_⟩
    rcases Nat.lt_or_ge g w.heap.size with k | k
    · exact k
    · rw [Array.getElem?_eq_none k] at h3; cases h3

theorem Row.but {w w' : World} {B R : Nat} {v : Value} {xs : List Ex} (h : Row w B v xs) (hU : But R w w') (hR : R < B) : Row w' B v xs := by
  have hlow := h.low
  obtain ⟨cs, h1, h2⟩ := h.cs
  refine ⟨cs, ⟨h1.1, ?_⟩, h2.keep fun b hb hl => hU.block b hl (by omega)⟩
  rcases h1.2 with h' | ⟨g, cap, cur, rfl, h3, h4, h5⟩
  · exact .inl h'
  · refine .inr ⟨g, cap, cur, rfl, h3, ?_, h5⟩
    rw [hU.block g (hlow g rfl).2 (by omega)]
    exact h4
theorem Row.up {w w' : World} {B : Nat} {v : Value} {xs : List Ex} (h : Row w B v xs) (hb : Below w.heap.size w w') : Row w' B v xs := by
  have hlow := h.low
  obtain ⟨cs, h1, h2⟩ := h.cs
  refine ⟨cs, ⟨h1.1, ?_⟩, h2.keep fun b _ hl => hb.block b hl⟩
  rcases h1.2 with h' | ⟨g, cap, cur, rfl, h3, h4, h5⟩
  · exact .inl h'
  · refine .inr ⟨g, cap, cur, rfl, h3, ?_, h5⟩
    rw [hb.block g (hlow g rfl).2]
    exact h4

/-- What such a row reads. -/
theorem Row.el {w : World} {B : Nat} {v : Value} {xs : List Ex} (h : Row w B v xs) : ∃ ao c, v = .slice ao xs.length c ∧ ElV w B ao xs := by
  obtain ⟨cs, h1, h2⟩ := h.cs
  rcases h1.2 with ⟨rfl, h0⟩ | ⟨g, cap, cur, rfl, h3, h4, _, _, h5, h6⟩
  · have e := List.length_eq_zero_iff.1 h0
    subst e
    exact ⟨none, 0, rfl, .nil⟩
  · refine ⟨some ⟨g, 0, none⟩, cap, rfl, h2.el h3 (fun b hb => hb.1) 0 fun j u hu => ?_⟩
    rw [Nat.zero_add, cell_of_row w g j _ _ _ h4]
    have hj := (List.getElem?_eq_some_iff.1 hu).1
    have hl := h1.1
    have e : cur[j]? = (cur.toList.take (xs.length * 7))[j]? := by rw [List.getElem?_take, if_pos (by omega)]; simp
    rw [e, h6, hu]

/-- One just laid. -/
theorem Row.new {w : World} {B : Nat} {x : Ex} {x0 x1 x2 x3 x4 x5 x6 : Value} (hB : B ≤ w.heap.size) (hx : ExV w B x [x0, x1, x2, x3, x4, x5, x6]) : Row (w.alloc (.cells #[x0, x1, x2, x3, x4, x5, x6] 41)) B (.slice (some ⟨w.heap.size, 0, none⟩) 1 1) [x] := by
  refine ⟨[x0, x1, x2, x3, x4, x5, x6], ⟨rfl, .inr ⟨w.heap.size, 1, _, rfl, hB, heap_alloc_new w _, Nat.le_refl _, by unfold maxLen; omega, rfl, rfl⟩⟩, ?_⟩
  have h2 : ExW w (fun b => B ≤ b ∧ (Value.slice (some ⟨w.heap.size, 0, none⟩) 1 1).ownBlock ≠ some b) x [x0, x1, x2, x3, x4, x5, x6] := hx.imp fun b hb hl => ⟨hb, by simp [Value.ownBlock]; omega⟩
  have := LsW.cons (h2.up (below_alloc w (.cells #[x0, x1, x2, x3, x4, x5, x6] 41))) LsW.nil
  simpa using this

/-- An append of one that was just laid. -/
theorem Row.app {w : World} {B : Nat} {v : Value} {xs : List Ex} {x : Ex} {x0 x1 x2 x3 x4 x5 x6 : Value} (h : Row w B v xs) (hB : B ≤ w.heap.size) (hx : ExV w B x [x0, x1, x2, x3, x4, x5, x6]) (hxg : ∀ b, v.ownBlock = some b → ExW w (fun c => B ≤ c ∧ c ≠ b) x [x0, x1, x2, x3, x4, x5, x6]) (hl : xs.length ≤ 10000000) :
    ∃ v' w', (Builtin.append_ #[39, 39] 39 #[v, .slice (some ⟨w.heap.size, 0, none⟩) 1 1]).run Tryz.prog (w.alloc (.cells #[x0, x1, x2, x3, x4, x5, x6] 41)) = .ok v' w' ∧ Row w' B v' (xs ++ [x]) ∧ Below B w w' := by
  obtain ⟨i0, hi, hz0, hz1, hz2⟩ := info_parts Tryz.infoEx
  have hone := hx.one
  have h2 := h.up (below_alloc w (.cells #[x0, x1, x2, x3, x4, x5, x6] 41))
  have hlow := h.low
  have hlow2 := h2.low
  have hBs : B ≤ (w.alloc (.cells #[x0, x1, x2, x3, x4, x5, x6] 41)).heap.size := by simp; omega
  obtain ⟨cs, ho, hls⟩ := h2.cs
  have hk := Bk.new w 41 #[x0, x1, x2, x3, x4, x5, x6]
  have hnews : ∀ j u, [x0, x1, x2, x3, x4, x5, x6][j]? = some u → (w.alloc (.cells #[x0, x1, x2, x3, x4, x5, x6] 41)).cell? ((⟨w.heap.size, 0, none⟩ : Addr).add j) = some u := by
    intro j u hj
    rw [Addr.add_mid, Nat.zero_add, hk.cell]
    exact hj
  obtain ⟨v', w', hr, ho', hgr, _⟩ := run_append_own (P := Tryz.prog) _ B 39 39 41 i0 _ 7 96 Tryz.underEs hi hz0 hz1 hz2 rfl (by decide) v xs.length cs ho ⟨w.heap.size, 0, none⟩ 1 1 [x0, x1, x2, x3, x4, x5, x6] rfl hnews hone (by unfold maxLen; omega) (by omega) hBs
  have hfresh : ∀ b, v'.ownBlock = some b → v.ownBlock = some b ∨ w.heap.size < b := by
    rcases ho.2 with ⟨rfl, h0⟩ | ⟨g, cap, cur, rfl, hbg, hg, hnc, hcm, hcs, htake⟩
    · have hr2 := run_append_nil (P := Tryz.prog) (w.alloc (.cells #[x0, x1, x2, x3, x4, x5, x6] 41)) 39 39 41 i0 _ Tryz.underEs hi hz0 ⟨w.heap.size, 0, none⟩ 1 1 [x0, x1, x2, x3, x4, x5, x6] (by rw [hz1]; rfl) hnews (by omega) (by omega) (by rw [hz2]; omega)
      rw [hr] at hr2
      cases hr2
      intro b hb
      simp [Value.ownBlock] at hb
      exact .inr (by omega)
    · by_cases hroom : xs.length + 1 ≤ cap
      · have hr2 := run_append_room (P := Tryz.prog) (w.alloc (.cells #[x0, x1, x2, x3, x4, x5, x6] 41)) 39 39 41 i0 Tryz.underEs hi g xs.length cap cur hg ⟨w.heap.size, 0, none⟩ 1 1 [x0, x1, x2, x3, x4, x5, x6] (by rw [hz1]; rfl) hnews hone hroom (by rw [hz1, hcs]; simp; omega)
        rw [hr] at hr2
        cases hr2
        intro b hb
        exact .inl hb
      · have hr2 := run_append_grow (P := Tryz.prog) (w.alloc (.cells #[x0, x1, x2, x3, x4, x5, x6] 41)) 39 39 41 i0 _ Tryz.underEs hi hz0 ⟨g, 0, none⟩ xs.length cap cs (by rw [hz1]; exact ho.1) (ho.cells (g := g) rfl) ⟨w.heap.size, 0, none⟩ 1 1 [x0, x1, x2, x3, x4, x5, x6] (by rw [hz1]; rfl) hnews (by omega) (by omega) (growslice_fits (by omega) (by rw [hz2]; omega))
        rw [hr] at hr2
        cases hr2
        intro b hb
        simp [Value.ownBlock] at hb
        exact .inr (by omega)
  refine ⟨v', w', hr, ?_, ((below_alloc w _).mono hB).trans ((Below.refl B _).grown hgr hBs fun k hk => (hlow2 k hk).1)⟩
  refine ⟨cs ++ [x0, x1, x2, x3, x4, x5, x6], by simpa using ho', ?_⟩
  have hx1 : ExW w (fun b => B ≤ b ∧ v.ownBlock ≠ some b) x [x0, x1, x2, x3, x4, x5, x6] := by
    cases hv : v.ownBlock with
    | none => exact hx.imp fun b hb _ => ⟨hb, by simp⟩
    | some g => exact (hxg g hv).imp fun b hb _ => ⟨hb.1, by simp; exact fun e => hb.2 e.symm⟩
  obtain ⟨cs0, ho0, hls0⟩ := h.cs
  have hls1 : LsW w (fun b => B ≤ b ∧ v.ownBlock ≠ some b) xs cs := by
    have hl0 : cs0 = cs := by
      rcases ho0.2 with ⟨e1, h1⟩ | ⟨g1, c1, r1, e1, _, hg1, _, _, _, ht1⟩
      · have a1 := ho0.1
        have a2 := ho.1
        rw [h1] at a1 a2
        have b1 : cs0 = [] := List.length_eq_zero_iff.1 (by simpa using a1)
        have b2 : cs = [] := List.length_eq_zero_iff.1 (by simpa using a2)
        rw [b1, b2]
      · rcases ho.2 with ⟨e2, h2⟩ | ⟨g2, c2, r2, e2, _, hg2, _, _, _, ht2⟩
        · rw [e1] at e2; cases e2
        · rw [e1] at e2
          cases e2
          rw [Below.heap_alloc _ _ _ (hlow g1 (by rw [e1]; rfl)).2] at hg2
          rw [hg1] at hg2
          cases hg2
          rw [← ht1, ht2]
    rw [← hl0]
    exact hls0
  have h5 := (hls1.snoc hx1).imp (A' := fun b => (B ≤ b ∧ v'.ownBlock ≠ some b) ∧ v.ownBlock ≠ some b ∧ b < w.heap.size) fun b hb hl => ⟨⟨hb.1, fun e => (hfresh b e).elim hb.2 (by omega)⟩, hb.2, hl⟩
  have h6 := h5.keep (w' := w') fun b hb hl => by
    rw [hgr.block b (by simp; omega) (fun e => hb.2.1 e.symm), Below.heap_alloc _ _ _ hl]
  exact h6.imp fun b hb _ => hb.1

theorem Rdr.low {I : Rdi} {w w' : World} {R k d B : Nat} (h : Rdr I w R k d) (hb : Below B w w') (hR : R < B) (hI : I.b < B) : Rdr I w' R k d := by
  refine ⟨?_, fun t ht => ?_, h.ne, h.kn, h.dS, h.lnS, h.small⟩
  · have := h.blk
    unfold Bk at this ⊢
    rw [hb.block R hR]
    exact this
  · exact (h.ms t ht).to hI hb
theorem But.low {R : Nat} {a w w' : World} (h : But R a w) (hb : Below a.heap.size w w') : But R a w' :=
  ⟨hb.os.trans h.os, hb.tape.trans h.tape, hb.output.trans h.output, Nat.le_trans h.size hb.size, fun k hk hn => (hb.block k hk).trans (h.block k hk hn)⟩

set_option maxHeartbeats 8000000 in
theorem args_step (I : Rdi) (hE : Ends I.M I.n) (f : Nat) (ihs : ∀ g, g ≤ f → AllN I g) (w : World) (R k d : Nat) (h : Rdr I w R k d) (ht : tk I.M [40] k = true) (hne : argsP I.M (lmOf I) (f + 1) d (k + 1) ≠ .out) :
    Calls Tryz.prog 176 #[.pointer (some ⟨R, 0, none⟩)] w fun e w' => Ans I R d w (elV w.heap.size) (argsP I.M (lmOf I) (f + 1) d (k + 1)) e w' := by
  have hlt := h.lt
  obtain ⟨r, hr⟩ : ∃ r, r = argsP I.M (lmOf I) (f + 1) d (k + 1) := ⟨_, rfl⟩
  rw [← hr] at hne ⊢
  rw [argsP] at hr
  have HR : Hid (r = _) := hr
  have hm := must_any I hE [40] (by decide) w R k d h
  have hmp : mustP I.M [40] k = .ok () (k + 1) := by unfold mustP; rw [if_pos ht]
  rw [hmp] at hm
  clear hr hmp ht
  cases t1 : tk I.M [41] (k + 1) with
  | true =>
    have HR : Hid (r = .ok [] (k + 1 + 1)) := by show r = _; rw [show r = _ from HR, if_pos t1]
    have HT : Hid (tk I.M [41] (k + 1) = true) := t1
    clear t1
    go_enter Tryz.func176, Tryz.ntmps176
    go_wp2_with fail
    refine hm.mono ?_
    rintro e w1 ⟨hU1, ⟨v, rfl, hv⟩, h1⟩
    subst hv
    go_wp2_with fail
    refine (pass_yes I [41] w1 R (k + 1) d h1 HT (hE.tk I.M HT (by decide) h1.kn)).mono ?_
    rintro e w2 ⟨rfl, h2, hV2⟩
    go_wp2
    go_ret
    exact ans_ok HR (hU1.trans hV2) ⟨none, 0, rfl, .nil⟩ h2
  | false =>
    have HR : Hid (r = (exprP I.M (lmOf I) f d (k + 1)).bind fun a k1 => argsL I.M (lmOf I) f d [a] k1) := by show r = _; rw [show r = _ from HR, if_neg (by rw [t1]; simp)]
    have HT : Hid (tk I.M [41] (k + 1) = false) := t1
    clear t1
    go_enter Tryz.func176, Tryz.ntmps176
    go_wp2_with fail
    refine hm.mono ?_
    rintro e w1 ⟨hU1, ⟨v, rfl, hv⟩, h1⟩
    subst hv
    go_wp2_with fail
    refine (pass_no I [41] w1 R (k + 1) d h1 HT).mono ?_
    rintro e w2 ⟨rfl, hb2⟩
    have h2 := h1.up hb2
    have hU2 := hU1.then hb2
    have hc2 := hU2.size
    go_wp2_with fail
    have hn3 := bind_ne HR hne
    refine ((ihs f (Nat.le_refl _)).expr w2 R (k + 1) d h2 hn3).mono ?_
    rintro e w3 ⟨hV3, ha⟩
    cases hq3 : exprP I.M (lmOf I) f d (k + 1) with
    | out => exact absurd hq3 hn3
    | bad y j =>
      rw [hq3] at ha
      rw [show e = _ from ha]
      have HR := bind_bad HR hq3
      clear ha hq3
      unfold gaveUp
      go_wp2
      exact ⟨rfl, ans_bad HR (hU2.trans hV3) rfl⟩
    | ok a k1 =>
      rw [hq3] at ha
      obtain ⟨⟨v, rfl, vs, rfl, hxa⟩, h3⟩ := ha
      obtain ⟨a0, a1, a2, a3, a4, a5, a6, rfl⟩ := list7 hxa.len
      have HR := bind_ok HR hq3
      have hge : k + 1 ≤ k1 := by have := (allGe I.M (lmOf I) f).exprP d (k + 1); rw [hq3] at this; exact this
      clear hq3 hn3
      have hU3 := hU2.trans hV3
      have hro := Row.new (w := w3) (B := w.heap.size) hU3.size (hxa.mono hc2)
      have hb4 := below_alloc w3 (.cells #[a0, a1, a2, a3, a4, a5, a6] 41)
      have h4 := h3.up hb4
      have hU4 := hU3.then hb4
      have hk1 : k + 1 ≤ k1 := by
        have := h3.kn
        exact hge
      have HW : Hid (Row (w3.alloc (.cells #[a0, a1, a2, a3, a4, a5, a6] 41)) w.heap.size (.slice (some ⟨w3.heap.size, 0, none⟩) 1 1) [a]) := hro
      clear hm hro hxa
      go_wp2_with fail
      go_loopw [3] (fun v wr => ∃ (acc : List Ex) (j g : Nat), Hid (Row wr w.heap.size v acc) ∧ Rdr I wr R j d ∧ But R w wr ∧ g ≤ f ∧ acc.length ≤ j ∧ Hid (r = argsL I.M (lmOf I) g d acc j)) (fun _ wr => I.n - posOf R wr)
      case atStart => exact ⟨[a], k1, f, HW, h4, hU4, Nat.le_refl _, by simp; omega, HR⟩
      case round =>
        clear HW HR h4 hU4 hU3 h3 hb4
        obtain ⟨acc, j, g, HW, hj, hUr, hg, hlen, HR⟩ := hrel
        cases g with
        | zero => exact absurd ((show r = _ from HR).trans (by rw [argsL])) hne
        | succ g =>
          have hr := show r = _ from HR
          rw [argsL] at hr
          have HR : Hid (r = _) := hr
          clear hr
          have hpj := hj.pos
          have hsr := hUr.size
          cases t1 : tk I.M [44] j with
          | true =>
            have HR : Hid (r = (exprP I.M (lmOf I) g d (j + 1)).bind fun a k1 => argsL I.M (lmOf I) g d (acc ++ [a]) k1) := by show r = _; rw [show r = _ from HR, if_pos t1]
            have HT : Hid (tk I.M [44] j = true) := t1
            clear t1
            go_wp2_with fail
            refine (pass_yes I [44] wr R j d hj HT (hE.tk I.M HT (by decide) hj.kn)).mono ?_
            rintro e w5 ⟨rfl, h5, hV5⟩
            have hU5 := hUr.trans hV5
            have HW5 : Hid (Row w5 w.heap.size _ acc) := Row.but (show Row _ _ _ _ from HW) hV5 (by omega)
            have hc5 := hU5.size
            go_wp2_with fail
            have hn6 := bind_ne HR hne
            refine ((ihs g (by omega)).expr w5 R (j + 1) d h5 hn6).mono ?_
            rintro e w6 ⟨hV6, ha⟩
            cases hq6 : exprP I.M (lmOf I) g d (j + 1) with
            | out => exact absurd hq6 hn6
            | bad y i =>
              rw [hq6] at ha
              rw [show e = _ from ha]
              have HR := bind_bad HR hq6
              clear ha hq6
              unfold gaveUp
              go_wp2
              exact ⟨rfl, ans_bad HR (hU5.trans hV6) rfl⟩
            | ok x j2 =>
              rw [hq6] at ha
              obtain ⟨⟨v, rfl, vs, rfl, hxx⟩, h6⟩ := ha
              obtain ⟨x0, x1, x2, x3, x4, x5, x6, rfl⟩ := list7 hxx.len
              have HR := bind_ok HR hq6
              have hj2 : j + 1 ≤ j2 := by have := (allGe I.M (lmOf I) g).exprP d (j + 1); rw [hq6] at this; exact this
              clear hq6 hn6
              have hU6 := hU5.trans hV6
              have hlow := Row.low (show Row w5 w.heap.size _ acc from HW5)
              have hR6 := Row.but (show Row w5 w.heap.size _ acc from HW5) hV6 (by omega)
              have hs6 := h6.small
              have hk6 := h6.kn
              obtain ⟨v', w7, hrun, hrow7, hb7⟩ := hR6.app hU6.size (hxx.mono hc5) (fun b hb => hxx.imp fun c hc _ => ⟨by omega, by have := (hlow b hb).2; omega⟩) (by omega)
              have HRUN : Hid (_ = _) := hrun
              have HW7 : Hid (Row w7 w.heap.size v' (acc ++ [x])) := hrow7
              have h7 := h6.low hb7 hlt.1 hlt.2
              have hU7 := hU6.low hb7
              have hp7 := h7.pos
              clear hrun hrow7 hR6 hlow HW5 HW
              go_wp2_with (at_builtin; refine wpList_append_run rfl (.tmp 13) (.tmp 16) 39 rfl rfl _ _ rfl rfl _ _ (show _ = _ from HRUN) ?_)
              go_roundw
              case rel => exact ⟨acc ++ [x], j2, g, HW7, h7, hU7, by omega, by simp; omega, HR⟩
              case measure => rw [hp7, hpj]; omega
          | false =>
            have HR : Hid (r = (mustP I.M [41] j).bind fun _ k1 => .ok acc k1) := by show r = _; rw [show r = _ from HR, if_neg (by rw [t1]; simp)]
            have HT : Hid (tk I.M [44] j = false) := t1
            clear t1
            go_wp2_with fail
            refine (pass_no I [44] wr R j d hj HT).mono ?_
            rintro e w5 ⟨rfl, hb5⟩
            have h5 := hj.up hb5
            have hU5 := hUr.then hb5
            have HW5 : Hid (Row w5 w.heap.size _ acc) := Row.up (show Row _ _ _ _ from HW) hb5
            go_wp2_with fail
            refine (must_any I hE [41] (by decide) w5 R j d h5).mono ?_
            rintro e w6 ⟨hV6, ha⟩
            cases hq6 : mustP I.M [41] j with
            | out => exact absurd hq6 (must_ne _ _ _)
            | bad y i =>
              rw [hq6] at ha
              rw [show e = _ from ha]
              have HR := bind_bad HR hq6
              clear ha hq6
              unfold gaveUp
              go_wp2
              exact ⟨rfl, ans_bad HR (hU5.trans hV6) rfl⟩
            | ok x j2 =>
              rw [hq6] at ha
              obtain ⟨⟨v, rfl, hv⟩, h6⟩ := ha
              subst hv
              have HR := bind_ok HR hq6
              clear hq6
              have hR6 := Row.but (show Row w5 w.heap.size _ acc from HW5) hV6 (by omega)
              go_wp2
              go_ret
              exact ans_ok HR (hU5.trans hV6) hR6.el h6
end Go.Proofs.YtndgglhppoijnaaGreatDoor
/-
  Rows of heads and signs; the walk of cons.
-/
namespace Go.Proofs.YtndgglhppoijnaaGreatDoor
open Go.RowKit
set_option maxRecDepth 100000

/-- One thing appended to a row of the call's own: the row is where it was, or in new memory. -/
theorem append_own1 {w : World} {B : Nat} {e ts : TypeId} {i0 : TypeInfo} {z : Value} {size bytes : Nat} (hu : Tryz.prog.underlying ts = some (.slice e)) (hi : Tryz.prog.info? e = some i0) (hz0 : i0.zero = some z) (hz1 : i0.size = size) (hz2 : i0.bytes = bytes)
    (hzs : z.cells.size = size) (hsz : 0 < size) {v : Value} {n : Nat} {cs : List Value} (ho : w.ownsRow B e size v n cs) (a : Addr) (news : List Value) (hl : news.length = size) (hnews : ∀ j u, news[j]? = some u → w.cell? (a.add j) = some u)
    (h1 : ∀ u ∈ news, u.oneCell' = true) (hn : n ≤ 10000000) (hby : bytes ≤ 1000) (hB : B ≤ w.heap.size) :
    ∃ v' w', (Builtin.append_ #[ts, ts] ts #[v, .slice (some a) 1 1]).run Tryz.prog w = .ok v' w' ∧ w'.ownsRow B e size v' (n + 1) (cs ++ news) ∧ w.grownBy w' v.ownBlock ∧ ∀ b, v'.ownBlock = some b → v.ownBlock = some b ∨ w.heap.size ≤ b := by
  have hmul : (n + 1) * bytes ≤ 140737488355328 := Nat.le_trans (Nat.mul_le_mul (Nat.succ_le_succ hn) hby) (by decide)
  have hml : n + 1 ≤ maxLen := by unfold maxLen; omega
  obtain ⟨v', w', hr, ho', hgr, _⟩ := run_append_own (P := Tryz.prog) w B ts ts e i0 z size bytes hu hi hz0 hz1 hz2 hzs hsz v n cs ho a 1 1 news (by rw [hl, Nat.one_mul]) hnews h1 hml hmul hB
  refine ⟨v', w', hr, ho', hgr, ?_⟩
  subst hz1
  subst hz2
  rcases ho.2 with ⟨rfl, h0⟩ | ⟨g, cap, cur, rfl, hbg, hg, hnc, hcm, hcs, htake⟩
  · have hr2 := run_append_nil (P := Tryz.prog) w ts ts e i0 _ hu hi hz0 a 1 1 news (by rw [hl, Nat.one_mul]) hnews (by omega) (by omega) (by omega)
    rw [hr] at hr2
    cases hr2
    intro b hb
    simp [Value.ownBlock] at hb
    exact .inr (by omega)
  · by_cases hroom : n + 1 ≤ cap
    · have hr2 := run_append_room (P := Tryz.prog) w ts ts e i0 hu hi g n cap cur hg a 1 1 news (by rw [hl, Nat.one_mul]) hnews h1 hroom (by rw [hcs, hl, ← Nat.succ_mul]; exact Nat.mul_le_mul_right _ hroom)
      rw [hr] at hr2
      cases hr2
      intro b hb
      exact .inl hb
    · have hr2 := run_append_grow (P := Tryz.prog) w ts ts e i0 _ hu hi hz0 ⟨g, 0, none⟩ n cap cs ho.1 (ho.cells (g := g) rfl) a 1 1 news (by rw [hl, Nat.one_mul]) hnews (by omega) (by omega) (growslice_fits (by omega) hmul)
      rw [hr] at hr2
      cases hr2
      intro b hb
      simp [Value.ownBlock] at hb
      exact .inr (by omega)

theorem owns_has {w : World} {B : Nat} {e : TypeId} {size : Nat} {v : Value} {n : Nat} {xs : List Value} (h : w.ownsRow B e size v n xs) : ∀ k, v.ownBlock = some k → B ≤ k ∧ k < w.heap.size := by
  intro k hk
  rcases h.2 with ⟨rfl, _⟩ | ⟨g, cap, cur, rfl, h2, h3, _⟩
  · simp [Value.ownBlock] at hk
  · simp [Value.ownBlock] at hk
    subst hk
    refine ⟨h2, ?_⟩
    rcases Nat.lt_or_ge g w.heap.size with j | j
    · exact j
    · rw [Array.getElem?_eq_none j] at h3; cases h3

theorem owns_keep {w w' : World} {B : Nat} {e : TypeId} {size : Nat} {v : Value} {n : Nat} {xs : List Value} (h : w.ownsRow B e size v n xs) (hk : ∀ b, v.ownBlock = some b → w'.heap[b]? = w.heap[b]?) : w'.ownsRow B e size v n xs := by
  refine ⟨h.1, ?_⟩
  rcases h.2 with h' | ⟨g, cap, cur, rfl, h2, h3, h4⟩
  · exact .inl h'
  · refine .inr ⟨g, cap, cur, rfl, h2, ?_, h4⟩
    rw [hk g rfl]
    exact h3

/-- Heads and signs, in rows of the call's own. -/
structure Hs (w : World) (B : Nat) (v3 v4 : Value) (hs : List Ex) (ss : List Mk) : Prop where
  cs : ∃ cs, w.ownsRow B 41 7 v3 hs.length cs ∧ LsW w (fun b => B ≤ b ∧ v3.ownBlock ≠ some b ∧ v4.ownBlock ≠ some b) hs cs
  sg : w.ownsRow B 85 4 v4 ss.length (mksC ss)
  ne : ∀ b, v3.ownBlock = some b → v4.ownBlock ≠ some b

theorem Hs.nil (w : World) (B : Nat) : Hs w B (.slice none 0 0) (.slice none 0 0) [] [] :=
  ⟨⟨[], ⟨rfl, .inl ⟨rfl, rfl⟩⟩, .nil⟩, ⟨rfl, .inl ⟨rfl, rfl⟩⟩, fun b h => by simp [Value.ownBlock] at h⟩
theorem Hs.keep {w w' : World} {B : Nat} {v3 v4 : Value} {hs : List Ex} {ss : List Mk} (h : Hs w B v3 v4 hs ss) (hk : ∀ b, B ≤ b → b < w.heap.size → w'.heap[b]? = w.heap[b]?) : Hs w' B v3 v4 hs ss := by
  obtain ⟨⟨cs, h1, h2⟩, h3, h4⟩ := h
  exact ⟨⟨cs, owns_keep h1 fun b hb => hk b (owns_has h1 b hb).1 (owns_has h1 b hb).2, h2.keep fun b hb hl => hk b hb.1 hl⟩, owns_keep h3 fun b hb => hk b (owns_has h3 b hb).1 (owns_has h3 b hb).2, h4⟩
theorem Hs.up {w w' : World} {B : Nat} {v3 v4 : Value} {hs : List Ex} {ss : List Mk} (h : Hs w B v3 v4 hs ss) (hb : Below w.heap.size w w') : Hs w' B v3 v4 hs ss := h.keep fun b _ hl => hb.block b hl
theorem Hs.but {w w' : World} {B R : Nat} {v3 v4 : Value} {hs : List Ex} {ss : List Mk} (h : Hs w B v3 v4 hs ss) (hU : But R w w') (hR : R < B) : Hs w' B v3 v4 hs ss := h.keep fun b hb hl => hU.block b hl (by omega)

theorem ownsRow_cells {w : World} {B : Nat} {e : TypeId} {size : Nat} {v : Value} {n : Nat} {xs ys : List Value} (h : w.ownsRow B e size v n xs) {w' : World} (h' : w'.ownsRow B e size v n ys) (hk : ∀ b, v.ownBlock = some b → w'.heap[b]? = w.heap[b]?) : ys = xs := by
  rcases h.2 with ⟨e1, h1⟩ | ⟨g1, c1, r1, e1, _, hg1, _, _, _, ht1⟩
  · have a1 := h.1
    have a2 := h'.1
    rw [h1, Nat.zero_mul] at a1 a2
    rw [List.length_eq_zero_iff.1 a1, List.length_eq_zero_iff.1 a2]
  · rcases h'.2 with ⟨e2, h2⟩ | ⟨g2, c2, r2, e2, _, hg2, _, _, _, ht2⟩
    · rw [e1] at e2; cases e2
    · rw [e1] at e2
      cases e2
      rw [hk g1 (by rw [e1]; rfl), hg1] at hg2
      cases hg2
      rw [← ht1, ht2]

/-- A head appended. -/
theorem Hs.app {w : World} {B : Nat} {v3 v4 : Value} {hs : List Ex} {ss : List Mk} {x : Ex} {x0 x1 x2 x3 x4 x5 x6 : Value} (h : Hs w B v3 v4 hs ss) (hB : B ≤ w.heap.size) (hx : ExW w (fun b => B ≤ b ∧ v3.ownBlock ≠ some b ∧ v4.ownBlock ≠ some b) x [x0, x1, x2, x3, x4, x5, x6]) (hl : hs.length ≤ 10000000) :
    ∃ v' w', (Builtin.append_ #[39, 39] 39 #[v3, .slice (some ⟨w.heap.size, 0, none⟩) 1 1]).run Tryz.prog (w.alloc (.cells #[x0, x1, x2, x3, x4, x5, x6] 41)) = .ok v' w' ∧ Hs w' B v' v4 (hs ++ [x]) ss ∧ w.grownBy w' v3.ownBlock := by
  obtain ⟨i0, hi, hz0, hz1, hz2⟩ := info_parts Tryz.infoEx
  have hh := h.up (below_alloc w (.cells #[x0, x1, x2, x3, x4, x5, x6] 41))
  obtain ⟨⟨cs, ho, hls⟩, hsg, hne⟩ := hh
  have hlow := owns_has ho
  obtain ⟨⟨cs0, ho0, hls0⟩, hsg0, _⟩ := h
  have hlow0 := owns_has ho0
  have hlw4 := owns_has hsg0
  have hk := Bk.new w 41 #[x0, x1, x2, x3, x4, x5, x6]
  have hnews : ∀ j u, [x0, x1, x2, x3, x4, x5, x6][j]? = some u → (w.alloc (.cells #[x0, x1, x2, x3, x4, x5, x6] 41)).cell? ((⟨w.heap.size, 0, none⟩ : Addr).add j) = some u := by
    intro j u hj
    rw [Addr.add_mid, Nat.zero_add, hk.cell]
    exact hj
  obtain ⟨v', w', hr, ho', hgr, hfr⟩ := append_own1 Tryz.underEs hi hz0 hz1 hz2 rfl (by decide) ho ⟨w.heap.size, 0, none⟩ [x0, x1, x2, x3, x4, x5, x6] rfl hnews hx.one hl (by decide) (by simp; omega)
  have hfr2 : ∀ b, v'.ownBlock = some b → v3.ownBlock = some b ∨ w.heap.size < b := fun b hb => (hfr b hb).imp id (by simp; omega)
  have hg2 : w.grownBy w' v3.ownBlock := ⟨hgr.os, hgr.tape, hgr.output, Nat.le_trans (by simp) hgr.size, fun b hb hn => by rw [hgr.block b (by simp; omega) hn, Below.heap_alloc _ _ _ hb]⟩
  refine ⟨v', w', hr, ⟨⟨cs ++ [x0, x1, x2, x3, x4, x5, x6], by simpa using ho', ?_⟩, owns_keep hsg0 fun b hb => hg2.block b (hlw4 b hb).2 fun e => hne b e.symm hb, fun b hb => ?_⟩, hg2⟩
  · have e : cs = cs0 := ownsRow_cells ho0 ho fun b hb => Below.heap_alloc _ _ _ (hlow0 b hb).2
    rw [e]
    have h5 := (hls0.snoc hx).imp (A' := fun b => (B ≤ b ∧ v'.ownBlock ≠ some b ∧ v4.ownBlock ≠ some b) ∧ v3.ownBlock ≠ some b) fun b hb hl => ⟨⟨hb.1, fun e => (hfr2 b e).elim hb.2.1 (by omega), hb.2.2⟩, hb.2.1⟩
    exact (h5.keep (w' := w') fun b hb hl => hg2.block b hl (fun e => hb.2 e.symm)).imp fun b hb _ => hb.1
  · rcases hfr2 b hb with h1 | h1
    · exact hne b h1
    · intro h2
      have := (hlw4 b h2).2
      omega

/-- A sign appended. -/
theorem Hs.sign {w : World} {B : Nat} {v3 v4 : Value} {hs : List Ex} {ss : List Mk} (m : Mk) (h : Hs w B v3 v4 hs ss) (hB : B ≤ w.heap.size) (hl : ss.length ≤ 10000000) :
    ∃ v' w', (Builtin.append_ #[60, 60] 60 #[v4, .slice (some ⟨w.heap.size, 0, none⟩) 1 1]).run Tryz.prog (w.alloc (.cells #[.int .i64 m.kind, .string (bs m.text), .complex .f64 (fl m.p) (fl m.q), .int .i64 m.at_] 85)) = .ok v' w' ∧ Hs w' B v3 v' hs (ss ++ [m]) ∧ w.grownBy w' v4.ownBlock := by
  obtain ⟨i0, hi, hz0, hz1, hz2⟩ := info_parts Tryz.infoMk
  have hh := h.up (below_alloc w (.cells #[.int .i64 m.kind, .string (bs m.text), .complex .f64 (fl m.p) (fl m.q), .int .i64 m.at_] 85))
  obtain ⟨_, ho, hne⟩ := hh
  obtain ⟨⟨cs0, ho0, hls0⟩, hsg0, _⟩ := h
  have hlow0 := owns_has ho0
  have hlw4 := owns_has hsg0
  have hk := Bk.new w 85 #[.int .i64 m.kind, .string (bs m.text), .complex .f64 (fl m.p) (fl m.q), .int .i64 m.at_]
  have hnews : ∀ j u, (mkC m)[j]? = some u → (w.alloc (.cells #[.int .i64 m.kind, .string (bs m.text), .complex .f64 (fl m.p) (fl m.q), .int .i64 m.at_] 85)).cell? ((⟨w.heap.size, 0, none⟩ : Addr).add j) = some u := by
    intro j u hj
    rw [Addr.add_mid, Nat.zero_add, hk.cell]
    exact hj
  obtain ⟨v', w', hr, ho', hgr, hfr⟩ := append_own1 Tryz.underMs hi hz0 hz1 hz2 rfl (by decide) ho ⟨w.heap.size, 0, none⟩ (mkC m) rfl hnews (mkC_one m) hl (by decide) (by simp; omega)
  have hfr2 : ∀ b, v'.ownBlock = some b → v4.ownBlock = some b ∨ w.heap.size < b := fun b hb => (hfr b hb).imp id (by simp; omega)
  have hg2 : w.grownBy w' v4.ownBlock := ⟨hgr.os, hgr.tape, hgr.output, Nat.le_trans (by simp) hgr.size, fun b hb hn => by rw [hgr.block b (by simp; omega) hn, Below.heap_alloc _ _ _ hb]⟩
  refine ⟨v', w', hr, ⟨⟨cs0, owns_keep ho0 fun b hb => hg2.block b (hlow0 b hb).2 fun e => hne b hb e.symm, ?_⟩, ?_, fun b hb h2 => ?_⟩, hg2⟩
  · have h5 := hls0.imp (A' := fun b => (B ≤ b ∧ v3.ownBlock ≠ some b ∧ v'.ownBlock ≠ some b) ∧ v4.ownBlock ≠ some b) fun b hb hl => ⟨⟨hb.1, hb.2.1, fun e => (hfr2 b e).elim hb.2.2 (by omega)⟩, hb.2.2⟩
    exact (h5.keep (w' := w') fun b hb hl => hg2.block b hl (fun e => hb.2 e.symm)).imp fun b hb _ => hb.1
  · rw [mksC_app]
    simpa [mksC] using ho'
  · rcases hfr2 b h2 with h1 | h1
    · exact hne b hb h1
    · have := (hlow0 b hb).2
      omega

/-- Heads and signs taken together from the right. -/
def cfold : List Ex → List Mk → Ex → Ex
  | h :: hs, s :: ss, b => two 18 h (cfold hs ss b) s
  | _, _, b => b
theorem cfold_snoc : ∀ (hs : List Ex) (ss : List Mk) (h : Ex) (s : Mk) (b : Ex), hs.length = ss.length → cfold (hs ++ [h]) (ss ++ [s]) b = cfold hs ss (two 18 h b s)
  | [], [], _, _, _, _ => rfl
  | x :: hs, y :: ss, h, s, b, e => by
    simp only [List.cons_append, cfold]
    rw [cfold_snoc hs ss h s b (by simpa using e)]
  | [], _ :: _, _, _, _, e => by simp at e
  | _ :: _, [], _, _, _, e => by simp at e

/-- What the rows read: a head; a sign. -/
theorem Hs.head {w : World} {B : Nat} {v3 v4 : Value} {hs : List Ex} {ss : List Mk} (h : Hs w B v3 v4 hs ss) : ∃ ao c, v3 = .slice ao hs.length c ∧ (hs ≠ [] → ∃ g, ao = some ⟨g, 0, none⟩ ∧ B ≤ g ∧ g < w.heap.size ∧ ∀ j (hj : j < hs.length), ∃ vs, w.rangeAt g (j * 7) vs ∧ ExW w (fun b => B ≤ b) hs[j] vs) := by
  obtain ⟨⟨cs, h1, h2⟩, _, _⟩ := h
  rcases h1.2 with ⟨rfl, h0⟩ | ⟨g, cap, cur, rfl, h3, h4, _, _, h5, h6⟩
  · have e := List.length_eq_zero_iff.1 h0
    subst e
    exact ⟨none, 0, rfl, fun hn => absurd rfl hn⟩
  · refine ⟨some ⟨g, 0, none⟩, cap, rfl, fun _ => ⟨g, rfl, h3, (owns_has h1 g rfl).2, ?_⟩⟩
    have hr : w.rangeAt g 0 cs := fun j u hu => by
      rw [Nat.zero_add, cell_of_row w g j _ _ _ h4]
      have hj := (List.getElem?_eq_some_iff.1 hu).1
      have hl := h1.1
      have e : cur[j]? = (cur.toList.take (hs.length * 7))[j]? := by rw [List.getElem?_take, if_pos (by omega)]; simp
      rw [e, h6, hu]
    have key : ∀ (hs : List Ex) (cs : List Value) (off : Nat), LsW w (fun b => B ≤ b ∧ (Value.slice (some ⟨g, 0, none⟩) hs.length cap).ownBlock ≠ some b ∧ v4.ownBlock ≠ some b) hs cs → w.rangeAt g off cs → ∀ j (hj : j < hs.length), ∃ vs, w.rangeAt g (off + j * 7) vs ∧ ExW w (fun b => B ≤ b) hs[j] vs := by
      intro hs
      induction hs with
      | nil => intro cs off _ _ j hj; simp at hj
      | cons x xs ih =>
        intro cs off hc hr j hj
        cases hc with
        | @cons _ vs _ cs' hx hxs =>
          have hl := hx.len
          cases j with
          | zero => exact ⟨vs, fun i u hu => by rw [Nat.zero_mul, Nat.add_zero]; exact hr i u (by rw [List.getElem?_append_left (List.getElem?_eq_some_iff.1 hu).1]; exact hu), hx.imp fun b hb _ => hb.1⟩
          | succ j =>
            obtain ⟨us, h1, h2⟩ := ih cs' (off + 7) (hxs.imp fun b hb _ => hb) (fun i u hu => by
              have := hr (7 + i) u (by rw [List.getElem?_append_right (by omega), hl, show 7 + i - 7 = i by omega]; exact hu)
              rw [show off + 7 + i = off + (7 + i) by omega]
              exact this) j (by simpa using hj)
            exact ⟨us, by rw [show off + (j + 1) * 7 = off + 7 + j * 7 by omega]; exact h1, h2⟩
    intro j hj
    have := key hs cs 0 h2 hr j hj
    simpa using this
theorem Hs.signs {w : World} {B : Nat} {v3 v4 : Value} {hs : List Ex} {ss : List Mk} (h : Hs w B v3 v4 hs ss) : ∃ ao c, v4 = .slice ao ss.length c ∧ (ss ≠ [] → ∃ g, ao = some ⟨g, 0, none⟩ ∧ B ≤ g ∧ g < w.heap.size ∧ ∀ j, j < ss.length → M4 w g (j * 4) (ss.getD j md)) := by
  have h1 := h.sg
  rcases h1.2 with ⟨h2, h0⟩ | ⟨g, cap, cur, h2, h3, h4, _⟩
  · have e := List.length_eq_zero_iff.1 h0
    subst e
    exact ⟨none, 0, h2, fun hn => absurd rfl hn⟩
  · refine ⟨some ⟨g, 0, none⟩, cap, h2, fun _ => ⟨g, rfl, h3, (owns_has h1 g (by rw [h2]; rfl)).2, fun j hj => ?_⟩⟩
    rw [h2] at h1
    have := (Mr.of h1).at j hj
    rw [Nat.zero_add] at this
    exact this

/-- What holds where the row of operands goes on. -/
def CJ (I : Rdi) (f : Nat) (w : World) (R d : Nat) (C : Nat → List Ex → List Mk → Nat → Prop) (a : Act) (w' : World) : Prop :=
  ∃ (U : Nat → Value) (v3 v4 : Value) (hs : List Ex) (ss : List Mk) (k1 g : Nat), a = ⟨#[.pointer (some ⟨R, 0, none⟩), U 1, .pointer (some ⟨w.heap.size, 0, none⟩), v3, v4, U 5, U 6, U 7, U 8, U 9, U 10, U 11, U 12, U 13, U 14, U 15, U 16, U 17, U 18, U 19, U 20, U 21, U 22, U 23, U 24, U 25, U 26, U 27, U 28, U 29, U 30, U 31, U 32, U 33, U 34, U 35, U 36, U 37], []⟩ ∧
    Rdr I w' R k1 d ∧ But R w w' ∧ Bk w' w.heap.size 41 [.int .i64 0, .string ⟨#[]⟩, .string ⟨#[]⟩, .int .i64 0, .complex .f64 0 0, .slice none 0 0, .int .i64 0] ∧ Hid (Hs w' (w.heap.size + 1) v3 v4 hs ss) ∧ hs.length = ss.length ∧ hs.length ≤ k1 ∧ g ≤ f + 1 ∧ C g hs ss k1

theorem CJ.mk {I : Rdi} {f : Nat} {w : World} {R d : Nat} {C : Nat → List Ex → List Mk → Nat → Prop} {w' : World} {v3 v4 x1 x5 x6 x7 x8 x9 x10 x11 x12 x13 x14 x15 x16 x17 x18 x19 x20 x21 x22 x23 x24 x25 x26 x27 x28 x29 x30 x31 x32 x33 x34 x35 x36 x37 : Value} (k1 g : Nat) (hs : List Ex) (ss : List Mk) (h1 : Rdr I w' R k1 d) (h2 : But R w w') (h3 : Bk w' w.heap.size 41 [.int .i64 0, .string ⟨#[]⟩, .string ⟨#[]⟩, .int .i64 0, .complex .f64 0 0, .slice none 0 0, .int .i64 0]) (h4 : Hid (Hs w' (w.heap.size + 1) v3 v4 hs ss)) (h5 : hs.length = ss.length) (h6 : hs.length ≤ k1) (h7 : g ≤ f + 1) (h8 : C g hs ss k1) :
    CJ I f w R d C ⟨#[.pointer (some ⟨R, 0, none⟩), x1, .pointer (some ⟨w.heap.size, 0, none⟩), v3, v4, x5, x6, x7, x8, x9, x10, x11, x12, x13, x14, x15, x16, x17, x18, x19, x20, x21, x22, x23, x24, x25, x26, x27, x28, x29, x30, x31, x32, x33, x34, x35, x36, x37], []⟩ w' :=
  ⟨fun i => match i with | 1 => x1 | 5 => x5 | 6 => x6 | 7 => x7 | 8 => x8 | 9 => x9 | 10 => x10 | 11 => x11 | 12 => x12 | 13 => x13 | 14 => x14 | 15 => x15 | 16 => x16 | 17 => x17 | 18 => x18 | 19 => x19 | 20 => x20 | 21 => x21 | 22 => x22 | 23 => x23 | 24 => x24 | 25 => x25 | 26 => x26 | 27 => x27 | 28 => x28 | 29 => x29 | 30 => x30 | 31 => x31 | 32 => x32 | 33 => x33 | 34 => x34 | 35 => x35 | 36 => x36 | 37 => x37 | _ => undef, v3, v4, hs, ss, k1, g, rfl, h1, h2, h3, h4, h5, h6, h7, h8⟩
end Go.Proofs.YtndgglhppoijnaaGreatDoor
