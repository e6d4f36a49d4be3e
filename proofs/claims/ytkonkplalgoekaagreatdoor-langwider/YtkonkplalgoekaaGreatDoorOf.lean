/-
  Rows of definitions; the walk of program.
-/
import Derived.Test.YtkonkplalgoekaaGreatDoorOe
import Derived.Test.YtkonkplalgoekaaGreatDoorGw
namespace Go.Proofs.YtkonkplalgoekaaGreatDoor
open Go.RowKit
set_option maxRecDepth 100000

theorem Tryz.infoFs : (Tryz.prog.info? 52).map (fun i => (i.zero, i.size, i.bytes)) = some (some (.agg fz), 11, 152) := by kernel_rfl
theorem Tryz.underFs : Tryz.prog.underlying 28 = some (.slice 52) := by kernel_rfl

theorem FnW.keep {w w' : World} {A : Nat → Prop} {g : Fn1} {vs : List Value} (h : FnW w A g vs) (hs : w.heap.size ≤ w'.heap.size) (hk : ∀ b, A b → b < w.heap.size → w'.heap[b]? = w.heap[b]?) : FnW w' A g vs := by
  obtain ⟨ao, c, es, e, h1, h2⟩ := h
  exact ⟨ao, c, es, e, h1.keep hs hk, h2.keep hk⟩
theorem FnW.imp {w : World} {A A' : Nat → Prop} {g : Fn1} {vs : List Value} (h : FnW w A g vs) (hk : ∀ b, A b → b < w.heap.size → A' b) : FnW w A' g vs := by
  obtain ⟨ao, c, es, e, h1, h2⟩ := h
  exact ⟨ao, c, es, e, h1.imp hk, h2.imp hk⟩
theorem FnW.len {w : World} {A : Nat → Prop} {g : Fn1} {vs : List Value} (h : FnW w A g vs) : vs.length = 11 := by
  obtain ⟨ao, c, es, rfl, h1, h2⟩ := h
  simp [h2.len]
theorem FnW.one {w : World} {A : Nat → Prop} {g : Fn1} {vs : List Value} (h : FnW w A g vs) : ∀ v ∈ vs, v.oneCell' = true := by
  obtain ⟨ao, c, es, rfl, h1, h2⟩ := h
  intro v hv
  simp only [List.mem_cons, List.mem_append, List.not_mem_nil, or_false] at hv
  rcases hv with rfl | rfl | rfl | hv | rfl
  · rfl
  · rfl
  · rfl
  · exact h2.one v hv
  · rfl

inductive FsW (w : World) (A : Nat → Prop) : List Fn1 → List Value → Prop
  | nil : FsW w A [] []
  | cons {x : Fn1} {vs : List Value} {xs : List Fn1} {cs : List Value} : FnW w A x vs → FsW w A xs cs → FsW w A (x :: xs) (vs ++ cs)

theorem FsW.snoc {w : World} {A : Nat → Prop} {x : Fn1} {vs : List Value} (hx : FnW w A x vs) : ∀ {xs : List Fn1} {cs : List Value}, FsW w A xs cs → FsW w A (xs ++ [x]) (cs ++ vs)
  | _, _, .nil => by
    have := FsW.cons hx FsW.nil
    simpa using this
  | _, _, .cons h hs => by
    rw [List.append_assoc]
    exact .cons h (hs.snoc hx)
theorem FsW.keep {w w' : World} {A : Nat → Prop} (hs : w.heap.size ≤ w'.heap.size) (hb : ∀ b, A b → b < w.heap.size → w'.heap[b]? = w.heap[b]?) : ∀ {xs : List Fn1} {cs : List Value}, FsW w A xs cs → FsW w' A xs cs
  | _, _, .nil => .nil
  | _, _, .cons h h2 => .cons (h.keep hs hb) (h2.keep hs hb)
theorem FsW.imp {w : World} {A A' : Nat → Prop} (hb : ∀ b, A b → b < w.heap.size → A' b) : ∀ {xs : List Fn1} {cs : List Value}, FsW w A xs cs → FsW w A' xs cs
  | _, _, .nil => .nil
  | _, _, .cons h hs => .cons (h.imp hb) (hs.imp hb)

/-- A row of definitions of the call's own. -/
structure FRow (w : World) (B : Nat) (v : Value) (gs : List Fn1) : Prop where
  cs : ∃ cs, w.ownsRow B 52 11 v gs.length cs ∧ FsW w (fun b => B ≤ b ∧ v.ownBlock ≠ some b) gs cs

/-- Definitions read in memory. -/
def FlW (w : World) (A : Nat → Prop) (ao : Option Addr) (gs : List Fn1) : Prop := gs = [] ∨ ∃ g cs, ao = some ⟨g, 0, none⟩ ∧ A g ∧ g < w.heap.size ∧ w.rangeAt g 0 cs ∧ FsW w A gs cs
def prV (B : Nat) (w : World) (gs : List Fn1) (v : Value) : Prop := ∃ ao c, v = .agg #[.slice ao gs.length c] ∧ FlW w (fun b => B ≤ b) ao gs

theorem FRow.keep {w w' : World} {B : Nat} {v : Value} {gs : List Fn1} (h : FRow w B v gs) (hs : w.heap.size ≤ w'.heap.size) (hk : ∀ b, B ≤ b → b < w.heap.size → w'.heap[b]? = w.heap[b]?) : FRow w' B v gs := by
  obtain ⟨cs, h1, h2⟩ := h
  exact ⟨cs, owns_keep h1 fun b hb => hk b (owns_has h1 b hb).1 (owns_has h1 b hb).2, h2.keep hs fun b hb hl => hk b hb.1 hl⟩
theorem FRow.up {w w' : World} {B : Nat} {v : Value} {gs : List Fn1} (h : FRow w B v gs) (hb : Below w.heap.size w w') : FRow w' B v gs := h.keep hb.size fun b _ hl => hb.block b hl
theorem FRow.but {w w' : World} {B R : Nat} {v : Value} {gs : List Fn1} (h : FRow w B v gs) (hU : But R w w') (hR : R < B) : FRow w' B v gs := h.keep hU.size fun b hb hl => hU.block b hl (by omega)

theorem FRow.read {w : World} {B : Nat} {v : Value} {gs : List Fn1} (h : FRow w B v gs) : ∃ ao c, v = .slice ao gs.length c ∧ FlW w (fun b => B ≤ b) ao gs := by
  obtain ⟨cs, h1, h2⟩ := h
  rcases h1.2 with ⟨rfl, h0⟩ | ⟨g, cap, cur, rfl, h3, h4, _, _, h5, h6⟩
  · exact ⟨none, 0, by rw [h0], .inl (List.length_eq_zero_iff.1 h0)⟩
  · refine ⟨some ⟨g, 0, none⟩, cap, rfl, .inr ⟨g, cs, rfl, h3, (owns_has h1 g rfl).2, fun j u hu => ?_, h2.imp fun b hb _ => hb.1⟩⟩
    rw [Nat.zero_add, cell_of_row w g j _ _ _ h4]
    have hj := (List.getElem?_eq_some_iff.1 hu).1
    have hl := h1.1
    have e : cur[j]? = (cur.toList.take (gs.length * 11))[j]? := by rw [List.getElem?_take, if_pos (by omega)]; simp
    rw [e, h6, hu]

theorem list11 {vs : List Value} (h : vs.length = 11) : ∃ a b c d e f g i j k l, vs = [a, b, c, d, e, f, g, i, j, k, l] := by
  match vs, h with
  | [a, b, c, d, e, f, g, i, j, k, l], _ => exact ⟨a, b, c, d, e, f, g, i, j, k, l, rfl⟩

/-- One just laid. -/
theorem FRow.new {w : World} {B : Nat} {g : Fn1} {x0 x1 x2 x3 x4 x5 x6 x7 x8 x9 x10 : Value} (hB : B ≤ w.heap.size) (hx : FnW w (fun b => B ≤ b) g [x0, x1, x2, x3, x4, x5, x6, x7, x8, x9, x10]) : FRow (w.alloc (.cells #[x0, x1, x2, x3, x4, x5, x6, x7, x8, x9, x10] 52)) B (.slice (some ⟨w.heap.size, 0, none⟩) 1 1) [g] := by
  refine ⟨[x0, x1, x2, x3, x4, x5, x6, x7, x8, x9, x10], ⟨rfl, .inr ⟨w.heap.size, 1, _, rfl, hB, heap_alloc_new w _, Nat.le_refl _, by unfold maxLen; omega, rfl, rfl⟩⟩, ?_⟩
  have h2 : FnW w (fun b => B ≤ b ∧ (Value.slice (some ⟨w.heap.size, 0, none⟩) 1 1).ownBlock ≠ some b) g [x0, x1, x2, x3, x4, x5, x6, x7, x8, x9, x10] := hx.imp fun b hb hl => ⟨hb, by simp [Value.ownBlock]; omega⟩
  have := FsW.cons (h2.keep (w' := w.alloc (.cells #[x0, x1, x2, x3, x4, x5, x6, x7, x8, x9, x10] 52)) (by simp) fun b _ hl => Below.heap_alloc _ _ _ hl) FsW.nil
  simpa using this

/-- An append of one just laid. -/
theorem FRow.app {w : World} {B : Nat} {v : Value} {gs : List Fn1} {g : Fn1} {x0 x1 x2 x3 x4 x5 x6 x7 x8 x9 x10 : Value} (h : FRow w B v gs) (hB : B ≤ w.heap.size) (hx : FnW w (fun b => B ≤ b ∧ v.ownBlock ≠ some b) g [x0, x1, x2, x3, x4, x5, x6, x7, x8, x9, x10]) (hl : gs.length ≤ 10000000) :
    ∃ v' w', (Builtin.append_ #[28, 28] 28 #[v, .slice (some ⟨w.heap.size, 0, none⟩) 1 1]).run Tryz.prog (w.alloc (.cells #[x0, x1, x2, x3, x4, x5, x6, x7, x8, x9, x10] 52)) = .ok v' w' ∧ FRow w' B v' (gs ++ [g]) ∧ Below B w w' := by
  obtain ⟨i0, hi, hz0, hz1, hz2⟩ := info_parts Tryz.infoFs
  have hh := h.up (below_alloc w (.cells #[x0, x1, x2, x3, x4, x5, x6, x7, x8, x9, x10] 52))
  obtain ⟨cs, ho, hls⟩ := hh
  obtain ⟨cs0, ho0, hls0⟩ := h
  have hlow0 := owns_has ho0
  have hk := Bk.new w 52 #[x0, x1, x2, x3, x4, x5, x6, x7, x8, x9, x10]
  have hnews : ∀ j u, [x0, x1, x2, x3, x4, x5, x6, x7, x8, x9, x10][j]? = some u → (w.alloc (.cells #[x0, x1, x2, x3, x4, x5, x6, x7, x8, x9, x10] 52)).cell? ((⟨w.heap.size, 0, none⟩ : Addr).add j) = some u := by
    intro j u hj
    rw [Addr.add_mid, Nat.zero_add, hk.cell]
    exact hj
  have hBs : B ≤ (w.alloc (.cells #[x0, x1, x2, x3, x4, x5, x6, x7, x8, x9, x10] 52)).heap.size := by simp; omega
  obtain ⟨v', w', hr, ho', hgr, hfr⟩ := append_own1 Tryz.underFs hi hz0 hz1 hz2 rfl (by decide) ho ⟨w.heap.size, 0, none⟩ [x0, x1, x2, x3, x4, x5, x6, x7, x8, x9, x10] rfl hnews hx.one hl (by decide) hBs
  have hfr2 : ∀ b, v'.ownBlock = some b → v.ownBlock = some b ∨ w.heap.size < b := fun b hb => (hfr b hb).imp id (by simp; omega)
  have hg2 : w.grownBy w' v.ownBlock := ⟨hgr.os, hgr.tape, hgr.output, Nat.le_trans (by simp) hgr.size, fun b hb hn => by rw [hgr.block b (by simp; omega) hn, Below.heap_alloc _ _ _ hb]⟩
  refine ⟨v', w', hr, ⟨cs ++ [x0, x1, x2, x3, x4, x5, x6, x7, x8, x9, x10], by simpa using ho', ?_⟩, (Below.refl B w).grown hg2 hB fun k hk => (hlow0 k hk).1⟩
  have e : cs = cs0 := ownsRow_cells ho0 ho fun b hb => Below.heap_alloc _ _ _ (hlow0 b hb).2
  rw [e]
  have h5 := (hls0.snoc hx).imp (A' := fun b => (B ≤ b ∧ v'.ownBlock ≠ some b) ∧ v.ownBlock ≠ some b) fun b hb hl => ⟨⟨hb.1, fun e => (hfr2 b e).elim hb.2 (by omega)⟩, hb.2⟩
  exact (h5.keep (w' := w') hg2.size fun b hb hl => hg2.block b hl (fun e => hb.2 e.symm)).imp fun b hb _ => hb.1

theorem FlW.imp {w : World} {A A' : Nat → Prop} {ao : Option Addr} {gs : List Fn1} (h : FlW w A ao gs) (hk : ∀ b, A b → b < w.heap.size → A' b) : FlW w A' ao gs := by
  rcases h with h | ⟨g, cs, e, ha, hl, hr, hf⟩
  · exact .inl h
  · exact .inr ⟨g, cs, e, hk g ha hl, hl, hr, hf.imp hk⟩
theorem Tryz.infoPr : (Tryz.prog.info? 30).map (·.size) = some 1 := by kernel_rfl

theorem def_gt {M : Nat → Mk} {L : Lm} {f n k : Nat} {g : Fn1} {j : Nat} (h : defP M L f n k = .ok g j) : k + 1 ≤ j := by
  unfold defP at h
  obtain ⟨x, k1, h1, h⟩ := bind_eq.1 h
  obtain ⟨ps, k2, h2, h⟩ := bind_eq.1 h
  obtain ⟨_, k3, h3, h⟩ := bind_eq.1 h
  obtain ⟨t, k4, h4, h⟩ := bind_eq.1 h
  obtain ⟨_, k5, h5, h⟩ := bind_eq.1 h
  obtain ⟨b, k6, h6, h⟩ := bind_eq.1 h
  obtain ⟨_, k7, h7, h⟩ := bind_eq.1 h
  cases h
  have a1 : k1 = k + 1 := by
    unfold nameOfP nameP at h1
    split at h1
    · cases h1
    · split at h1
      · cases h1; rfl
      · cases h1
  have a2 : k1 ≤ k2 := by have := ge_params M L f k1; rw [h2] at this; exact this
  have a3 : k2 ≤ k3 := by have := ge_must M [58] k2; rw [h3] at this; exact this
  have a4 : k3 ≤ k4 := by have := ge_type M k3; rw [h4] at this; exact this
  have a5 : k4 ≤ k5 := by have := ge_must M [61] k4; rw [h5] at this; exact this
  have a6 : k5 ≤ k6 := by have := (allGe M L f).exprP 0 k5; rw [h6] at this; exact this
  have a7 : k6 ≤ j := by have := ge_must M [59] k6; rw [h7] at this; exact this
  omega

set_option maxHeartbeats 8000000 in
theorem program_any (I : Rdi) (hE : Ends I.M I.n) (f : Nat) (w : World) (R k : Nat) (h : Rdr I w R k 0) (hne : progL I.M (lmOf I) f [] k ≠ .out) :
    Calls Tryz.prog 21 #[.pointer (some ⟨R, 0, none⟩)] w fun e w' => Ans I R 0 w (prV w.heap.size) (progL I.M (lmOf I) f [] k) e w' := by
  obtain ⟨r, hr⟩ : ∃ r, r = progL I.M (lmOf I) f [] k := ⟨_, rfl⟩
  rw [← hr] at hne ⊢
  cases f with
  | zero => exact absurd (hr.trans (by rw [progL])) hne
  | succ f =>
  rw [progL] at hr
  have HR : Hid (r = (defP I.M (lmOf I) f 0 k).bind fun g k1 => if (I.M k1).kind = 4 then .ok [g] k1 else progL I.M (lmOf I) f [g] k1) := hr
  clear hr
  have hlt := h.lt
  have hB0 := Bk.new w 30 #[.slice none 0 0]
  have hb0 := below_alloc w (.cells #[.slice none 0 0] 30)
  have h1 := h.up hb0
  have hU1 := bel_but hb0 R
  have hn1 := bind_ne HR hne
  have hda := def_any I hE f 0 _ R k h1 hn1
  rw [show ((0 + 1 : Nat) : Int) = 1 from rfl] at hda
  go_enter Tryz.func21, Tryz.ntmps21
  go_wp2_with fail
  refine hda.mono ?_
  rintro e w2 ⟨hV2, ha⟩
  cases hq2 : defP I.M (lmOf I) f 0 k with
  | out => exact absurd hq2 hn1
  | bad y j =>
    rw [hq2] at ha
    rw [show e = _ from ha]
    have HR := bind_bad HR hq2
    clear ha hq2 hda
    unfold gaveUp
    go_wp2
    exact ⟨rfl, ans_bad HR (hU1.trans hV2) rfl⟩
  | ok g0 k1 =>
    rw [hq2] at ha
    obtain ⟨⟨v, rfl, vs, rfl, hxg⟩, h2⟩ := ha
    obtain ⟨x0, x1, x2, x3, x4, x5, x6, x7, x8, x9, x10, rfl⟩ := list11 hxg.len
    have HR := bind_ok HR hq2
    have hg01 := def_gt hq2
    clear hq2 hn1 hda
    have hU2 := hU1.trans hV2
    have hB2 := hB0.but hV2 (by omega)
    have hl2 := hB2.lt
    have hb3 := below_alloc w2 (.cells #[x0, x1, x2, x3, x4, x5, x6, x7, x8, x9, x10] 52)
    have h3 := h2.up hb3
    have hU3 := hU2.then hb3
    have hB3 := hB2.up hb3
    have es1 : (w.alloc (.cells #[.slice none 0 0] 30)).heap.size = w.heap.size + 1 := by simp
    have HW : Hid (FRow (w2.alloc (.cells #[x0, x1, x2, x3, x4, x5, x6, x7, x8, x9, x10] 52)) (w.heap.size + 1) (.slice (some ⟨w2.heap.size, 0, none⟩) 1 1) [g0]) := FRow.new (by omega) (hxg.imp fun b hb _ => by rw [es1] at hb; exact hb)
    go_wp2_with fail
    go_loopw [3] (fun v wr => ∃ (acc : List Fn1) (j g : Nat), Hid (FRow wr (w.heap.size + 1) v acc) ∧ Rdr I wr R j 0 ∧ But R w wr ∧ Bk wr w.heap.size 30 [.slice none 0 0] ∧ acc.length ≤ j ∧ Hid (r = if (I.M j).kind = 4 then .ok acc j else progL I.M (lmOf I) g acc j)) (fun _ wr => I.n - posOf R wr)
    case atStart => exact ⟨[g0], k1, f, HW, h3, hU3, hB3, by simp; omega, HR⟩
    case round =>
      clear HW HR h3 hU3 h2 hb3 h1 hB3 hB2 hB0 hxg hU2 hV2
      obtain ⟨acc, j, g, HW, hj, hUr, hBr, hlen, HR⟩ := hrel
      have hpj := hj.pos
      have hsr := hBr.lt
      obtain ⟨ao, cp, rfl, _⟩ := FRow.read (show FRow _ _ _ _ from HW)
      have hf := fun W => (fldM (I.M j) W).1
      go_wp2_with fail
      refine (next_any I wr R j 0 hj).mono ?_
      rintro e w4 ⟨rfl, hb4⟩
      unfold mkV
      have h4 := hj.up hb4
      have hU4 := hUr.then hb4
      have hB4 := hBr.up hb4
      have HW4 : Hid (FRow w4 (w.heap.size + 1) (.slice ao acc.length cp) acc) := FRow.up (show FRow _ _ _ _ from HW) hb4
      have hl4 := hB4.lt
      clear HW hb4
      by_cases hk4 : (I.M j).kind = 4
      · have HR : Hid (r = .ok acc j) := by show r = _; rw [show r = _ from HR, if_pos hk4]
        have hkb : ((I.M j).kind != 4) = false := by simp [hk4]
        clear hk4
        go_wp2_with (refine wpList_storeN rfl 30 (.tmp 2) (.tmp 20) rfl w.heap.size 0 [.slice ao acc.length cp] rfl rfl hB4 (Nat.le_refl 1) Tryz.infoPr (by intro u hu; simp only [List.mem_cons, List.not_mem_nil, or_false] at hu; subst hu; rfl) ?_; intro wz hBz hoz)
        have hrz := h4.oth hoz (by omega) (by omega)
        have hUz := hoz.but hU4 (Nat.le_refl _)
        have q0 := (show Bk wz w.heap.size _ [.slice ao acc.length cp] from hBz).cell 0
        obtain ⟨ao', c', e', hfl⟩ := (FRow.keep (show FRow w4 _ _ acc from HW4) (Nat.le_of_eq hoz.size.symm) fun b hb _ => hoz.block b (by omega)).read
        cases e'
        refine bodyPost_ret (v := .agg #[.slice ao acc.length cp]) (by simp [results, Tryz.results21, go_sem, q0]) rfl (ans_ok HR hUz ⟨ao, cp, rfl, hfl.imp fun b hb _ => by omega⟩ hrz)
      · have HR : Hid (r = progL I.M (lmOf I) g acc j) := by show r = _; rw [show r = _ from HR, if_neg hk4]
        have hkb : ((I.M j).kind != 4) = true := by simp [hk4]
        cases g with
        | zero => exact absurd ((show r = _ from HR).trans (by rw [progL])) hne
        | succ g =>
          have hr := show r = _ from HR
          rw [progL] at hr
          have HR : Hid (r = (defP I.M (lmOf I) g acc.length j).bind fun x k1 => if (I.M k1).kind = 4 then .ok (acc ++ [x]) k1 else progL I.M (lmOf I) g (acc ++ [x]) k1) := hr
          clear hr hk4
          have hn5 := bind_ne HR hne
          have hs4 := h4.small
          have hk4 := h4.kn
          have hda := def_any I hE g acc.length w4 R j h4 hn5
          rw [show ((acc.length + 1 : Nat) : Int) = (acc.length : Int) + 1 by omega] at hda
          have hwl : IntKind.i64.wrap ((acc.length : Int) + 1) = (acc.length : Int) + 1 := by rw [IntKind.wrap_i64]; omega
          go_wp2_with fail
          refine hda.mono ?_
          rintro e w6 ⟨hV6, ha⟩
          cases hq6 : defP I.M (lmOf I) g acc.length j with
          | out => exact absurd hq6 hn5
          | bad y i =>
            rw [hq6] at ha
            rw [show e = _ from ha]
            have HR := bind_bad HR hq6
            clear ha hq6 hda
            unfold gaveUp
            go_wp2
            exact ⟨rfl, ans_bad HR (hU4.trans hV6) rfl⟩
          | ok x j2 =>
            rw [hq6] at ha
            obtain ⟨⟨v, rfl, vs, rfl, hxg⟩, h6⟩ := ha
            obtain ⟨y0, y1, y2, y3, y4, y5, y6, y7, y8, y9, y10, rfl⟩ := list11 hxg.len
            have HR := bind_ok HR hq6
            have hj2 := def_gt hq6
            clear hq6 hn5 hda
            have hU6 := hU4.trans hV6
            have hB6 := hB4.but hV6 (by omega)
            have hl6 := hB6.lt
            have hlow := owns_has (show FRow w4 _ _ acc from HW4).cs.choose_spec.1
            obtain ⟨v', w7, hrun, hrow7, hb7⟩ := FRow.app ((show FRow w4 _ _ acc from HW4).but hV6 (by omega)) (by omega) (hxg.imp fun b hb _ => ⟨by omega, fun e => by have := (hlow b e).2; omega⟩) (by omega)
            have HRUN : Hid (_ = _) := hrun
            have HW7 : Hid (FRow w7 (w.heap.size + 1) v' (acc ++ [x])) := hrow7
            have h7 := h6.low hb7 (by omega) (by omega)
            have hU7 := hU6.low (hb7.mono (Nat.le_succ _))
            have hB7 : Bk w7 w.heap.size 30 [.slice none 0 0] := by unfold Bk; rw [hb7.block _ (Nat.lt_succ_self _)]; exact hB6
            have hp7 := h7.pos
            clear hrun hrow7 hlow HW4 hB4 hB6
            go_wp2_with (at_builtin; refine wpList_append_run rfl (.tmp 11) (.tmp 17) 28 rfl rfl _ _ rfl rfl _ _ (show _ = _ from HRUN) ?_)
            go_roundw
            case rel => exact ⟨acc ++ [x], j2, g, HW7, h7, hU7, hB7, by simp; omega, HR⟩
            case measure => rw [hp7, hpj]; omega
end Go.Proofs.YtkonkplalgoekaaGreatDoor
