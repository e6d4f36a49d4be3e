/-
  5 texts in one: what each proves stands at its head.
-/
import Derived.Test.YtndgglhppoijnaaGreatDoorOe
import Derived.Test.YtndgglhppoijnaaGreatDoorUA
import Derived.Test.YtndgglhppoijnaaGreatDoorUI
import Derived.Defers
import Derived.Recover
import Derived.RegionTactic
import Derived.Lib.SlBytesConst
import Derived.Test.YtndgglhppoijnaaGreatDoorUH
import Derived.Deep.RegionLaw
/-
  Rows of definitions; the walk of program.
-/
namespace Go.Proofs.YtndgglhppoijnaaGreatDoor
open Go.RowKit
set_option maxRecDepth 100000

theorem Tryz.infoFs : (Tryz.prog.info? 43).map (fun i => (i.zero, i.size, i.bytes)) = some (some (.agg fz), 11, 152) := by kernel_rfl
theorem Tryz.underFs : Tryz.prog.underlying 27 = some (.slice 43) := by kernel_rfl

theorem FnW.keep {w w' : World} {A : Nat → Prop} {g : Fn1} {vs : List Value} (h : FnW w A g vs) (hs : w.heap.size ≤ w'.heap.size) (hk : ∀ b, A b → b < w.heap.size → w'.heap[b]? = w.heap[b]?) : FnW w' A g vs := by
  obtain ⟨ao, c, es, e, h1, h2⟩ := h
  exact ⟨ao, c, es, e, h1.keep hs hk, h2.keep hk⟩
theorem FnW.imp {w : World} {A A' : Nat → Prop} {g : Fn1} {vs : List Value} (h : FnW w A g vs) (hk : ∀ b, A b → b < w.heap.size → A' b) : FnW w A' g vs := by
  obtain ⟨ao, c, es, e, h1, h2⟩ := h
  exact ⟨ao, c, es, e, h1.imp hk, h2.imp hk⟩
theorem FnW.len {w : World} {A : Nat → Prop} {g : Fn1} {vs : List Value} (h : FnW w A g vs) : vs.length = 11 := by
  obtain ⟨ao, c, es, rfl, h1, h2⟩ := h
  simp [h2.len]
theorem FnW.one {w : World} {A : Nat → Prop} {g : Fn1} {vs : List Value} (h : FnW w A g vs) : ∀ v ∈ vs, v.oneCell' = true := by
  obtain ⟨ao, c, es, rfl, h1, h2⟩ := h
  intro v hv
  simp only [List.mem_cons, List.mem_append, List.not_mem_nil, or_false] at hv
  rcases hv with rfl | rfl | rfl | hv | rfl
  · rfl
  · rfl
  · rfl
  · exact h2.one v hv
  · rfl

inductive FsW (w : World) (A : Nat → Prop) : List Fn1 → List Value → Prop
  | nil : FsW w A [] []
  | cons {x : Fn1} {vs : List Value} {xs : List Fn1} {cs : List Value} : FnW w A x vs → FsW w A xs cs → FsW w A (x :: xs) (vs ++ cs)

theorem FsW.snoc {w : World} {A : Nat → Prop} {x : Fn1} {vs : List Value} (hx : FnW w A x vs) : ∀ {xs : List Fn1} {cs : List Value}, FsW w A xs cs → FsW w A (xs ++ [x]) (cs ++ vs)
  | _, _, .nil => by
    have := FsW.cons hx FsW.nil
    simpa using this
  | _, _, .cons h hs => by
    rw [List.append_assoc]
    exact .cons h (hs.snoc hx)
theorem FsW.keep {w w' : World} {A : Nat → Prop} (hs : w.heap.size ≤ w'.heap.size) (hb : ∀ b, A b → b < w.heap.size → w'.heap[b]? = w.heap[b]?) : ∀ {xs : List Fn1} {cs : List Value}, FsW w A xs cs → FsW w' A xs cs
  | _, _, .nil => .nil
  | _, _, .cons h h2 => .cons (h.keep hs hb) (h2.keep hs hb)
theorem FsW.imp {w : World} {A A' : Nat → Prop} (hb : ∀ b, A b → b < w.heap.size → A' b) : ∀ {xs : List Fn1} {cs : List Value}, FsW w A xs cs → FsW w A' xs cs
  | _, _, .nil => .nil
  | _, _, .cons h hs => .cons (h.imp hb) (hs.imp hb)

/-- A row of definitions of the call's own. -/
structure FRow (w : World) (B : Nat) (v : Value) (gs : List Fn1) : Prop where
  cs : ∃ cs, w.ownsRow B 43 11 v gs.length cs ∧ FsW w (fun b => B ≤ b ∧ v.ownBlock ≠ some b) gs cs

/-- Definitions read in memory. -/
def FlW (w : World) (A : Nat → Prop) (ao : Option Addr) (gs : List Fn1) : Prop := gs = [] ∨ ∃ g cs, ao = some ⟨g, 0, none⟩ ∧ A g ∧ g < w.heap.size ∧ w.rangeAt g 0 cs ∧ FsW w A gs cs
def prV (B : Nat) (w : World) (gs : List Fn1) (v : Value) : Prop := ∃ ao c, v = .agg #[.slice ao gs.length c] ∧ FlW w (fun b => B ≤ b) ao gs ∧ gs.length ≤ c

theorem FRow.keep {w w' : World} {B : Nat} {v : Value} {gs : List Fn1} (h : FRow w B v gs) (hs : w.heap.size ≤ w'.heap.size) (hk : ∀ b, B ≤ b → b < w.heap.size → w'.heap[b]? = w.heap[b]?) : FRow w' B v gs := by
  obtain ⟨cs, h1, h2⟩ := h
  exact ⟨cs, owns_keep h1 fun b hb => hk b (owns_has h1 b hb).1 (owns_has h1 b hb).2, h2.keep hs fun b hb hl => hk b hb.1 hl⟩
theorem FRow.up {w w' : World} {B : Nat} {v : Value} {gs : List Fn1} (h : FRow w B v gs) (hb : Below w.heap.size w w') : FRow w' B v gs := h.keep hb.size fun b _ hl => hb.block b hl
theorem FRow.but {w w' : World} {B R : Nat} {v : Value} {gs : List Fn1} (h : FRow w B v gs) (hU : But R w w') (hR : R < B) : FRow w' B v gs := h.keep hU.size fun b hb hl => hU.block b hl (by omega)

theorem FRow.read {w : World} {B : Nat} {v : Value} {gs : List Fn1} (h : FRow w B v gs) : ∃ ao c, v = .slice ao gs.length c ∧ FlW w (fun b => B ≤ b) ao gs ∧ gs.length ≤ c := by
  obtain ⟨cs, h1, h2⟩ := h
  rcases h1.2 with ⟨rfl, h0⟩ | ⟨g, cap, cur, rfl, h3, h4, hnc, _, h5, h6⟩
  · exact ⟨none, 0, by rw [h0], .inl (List.length_eq_zero_iff.1 h0), by omega⟩
  · refine ⟨some ⟨g, 0, none⟩, cap, rfl, .inr ⟨g, cs, rfl, h3, (owns_has h1 g rfl).2, fun j u hu => ?_, h2.imp fun b hb _ => hb.1⟩, hnc⟩
    rw [Nat.zero_add, cell_of_row w g j _ _ _ h4]
    have hj := (List.getElem?_eq_some_iff.1 hu).1
    have hl := h1.1
    have e : cur[j]? = (cur.toList.take (gs.length * 11))[j]? := by rw [List.getElem?_take, if_pos (by omega)]; simp
    rw [e, h6, hu]

theorem list11 {vs : List Value} (h : vs.length = 11) : ∃ a b c d e f g i j k l, vs = [a, b, c, d, e, f, g, i, j, k, l] := by
  match vs, h with
  | [a, b, c, d, e, f, g, i, j, k, l], _ => exact ⟨a, b, c, d, e, f, g, i, j, k, l, rfl⟩

/-- One just laid. -/
theorem FRow.new {w : World} {B : Nat} {g : Fn1} {x0 x1 x2 x3 x4 x5 x6 x7 x8 x9 x10 : Value} (hB : B ≤ w.heap.size) (hx : FnW w (fun b => B ≤ b) g [x0, x1, x2, x3, x4, x5, x6, x7, x8, x9, x10]) : FRow (w.alloc (.cells #[x0, x1, x2, x3, x4, x5, x6, x7, x8, x9, x10] 43)) B (.slice (some ⟨w.heap.size, 0, none⟩) 1 1) [g] := by
  refine ⟨[x0, x1, x2, x3, x4, x5, x6, x7, x8, x9, x10], ⟨rfl, .inr ⟨w.heap.size, 1, _, rfl, hB, heap_alloc_new w _, Nat.le_refl _, by unfold maxLen; omega, rfl, rfl⟩⟩, ?_⟩
  have h2 : FnW w (fun b => B ≤ b ∧ (Value.slice (some ⟨w.heap.size, 0, none⟩) 1 1).ownBlock ≠ some b) g [x0, x1, x2, x3, x4, x5, x6, x7, x8, x9, x10] := hx.imp fun b hb hl => ⟨hb, by simp [Value.ownBlock]; omega⟩
  have := FsW.cons (h2.keep (w' := w.alloc (.cells #[x0, x1, x2, x3, x4, x5, x6, x7, x8, x9, x10] 43)) (by simp) fun b _ hl => Below.heap_alloc _ _ _ hl) FsW.nil
  simpa using this

/-- An append of one just laid. -/
theorem FRow.app {w : World} {B : Nat} {v : Value} {gs : List Fn1} {g : Fn1} {x0 x1 x2 x3 x4 x5 x6 x7 x8 x9 x10 : Value} (h : FRow w B v gs) (hB : B ≤ w.heap.size) (hx : FnW w (fun b => B ≤ b ∧ v.ownBlock ≠ some b) g [x0, x1, x2, x3, x4, x5, x6, x7, x8, x9, x10]) (hl : gs.length ≤ 10000000) :
    ∃ v' w', (Builtin.append_ #[27, 27] 27 #[v, .slice (some ⟨w.heap.size, 0, none⟩) 1 1]).run Tryz.prog (w.alloc (.cells #[x0, x1, x2, x3, x4, x5, x6, x7, x8, x9, x10] 43)) = .ok v' w' ∧ FRow w' B v' (gs ++ [g]) ∧ Below B w w' := by
  obtain ⟨i0, hi, hz0, hz1, hz2⟩ := info_parts Tryz.infoFs
  have hh := h.up (below_alloc w (.cells #[x0, x1, x2, x3, x4, x5, x6, x7, x8, x9, x10] 43))
  obtain ⟨cs, ho, hls⟩ := hh
  obtain ⟨cs0, ho0, hls0⟩ := h
  have hlow0 := owns_has ho0
  have hk := Bk.new w 43 #[x0, x1, x2, x3, x4, x5, x6, x7, x8, x9, x10]
  have hnews : ∀ j u, [x0, x1, x2, x3, x4, x5, x6, x7, x8, x9, x10][j]? = some u → (w.alloc (.cells #[x0, x1, x2, x3, x4, x5, x6, x7, x8, x9, x10] 43)).cell? ((⟨w.heap.size, 0, none⟩ : Addr).add j) = some u := by
    intro j u hj
    rw [Addr.add_mid, Nat.zero_add, hk.cell]
    exact hj
  have hBs : B ≤ (w.alloc (.cells #[x0, x1, x2, x3, x4, x5, x6, x7, x8, x9, x10] 43)).heap.size := by simp; omega
  obtain ⟨v', w', hr, ho', hgr, hfr⟩ := append_own1 Tryz.underFs hi hz0 hz1 hz2 rfl (by decide) ho ⟨w.heap.size, 0, none⟩ [x0, x1, x2, x3, x4, x5, x6, x7, x8, x9, x10] rfl hnews hx.one hl (by decide) hBs
  have hfr2 : ∀ b, v'.ownBlock = some b → v.ownBlock = some b ∨ w.heap.size < b := fun b hb => (hfr b hb).imp id (by simp; omega)
  have hg2 : w.grownBy w' v.ownBlock := ⟨hgr.os, hgr.tape, hgr.output, Nat.le_trans (by simp) hgr.size, fun b hb hn => by rw [hgr.block b (by simp; omega) hn, Below.heap_alloc _ _ _ hb]⟩
  refine ⟨v', w', hr, ⟨cs ++ [x0, x1, x2, x3, x4, x5, x6, x7, x8, x9, x10], by simpa using ho', ?_⟩, (Below.refl B w).grown hg2 hB fun k hk => (hlow0 k hk).1⟩
  have e : cs = cs0 := ownsRow_cells ho0 ho fun b hb => Below.heap_alloc _ _ _ (hlow0 b hb).2
  rw [e]
  have h5 := (hls0.snoc hx).imp (A' := fun b => (B ≤ b ∧ v'.ownBlock ≠ some b) ∧ v.ownBlock ≠ some b) fun b hb hl => ⟨⟨hb.1, fun e => (hfr2 b e).elim hb.2 (by omega)⟩, hb.2⟩
  exact (h5.keep (w' := w') hg2.size fun b hb hl => hg2.block b hl (fun e => hb.2 e.symm)).imp fun b hb _ => hb.1

theorem FlW.imp {w : World} {A A' : Nat → Prop} {ao : Option Addr} {gs : List Fn1} (h : FlW w A ao gs) (hk : ∀ b, A b → b < w.heap.size → A' b) : FlW w A' ao gs := by
  rcases h with h | ⟨g, cs, e, ha, hl, hr, hf⟩
  · exact .inl h
  · exact .inr ⟨g, cs, e, hk g ha hl, hl, hr, hf.imp hk⟩
theorem Tryz.infoPr : (Tryz.prog.info? 29).map (·.size) = some 1 := by kernel_rfl

theorem def_gt {M : Nat → Mk} {L : Lm} {f n k : Nat} {g : Fn1} {j : Nat} (h : defP M L f n k = .ok g j) : k + 1 ≤ j := by
  unfold defP at h
  obtain ⟨x, k1, h1, h⟩ := bind_eq.1 h
  obtain ⟨ps, k2, h2, h⟩ := bind_eq.1 h
  obtain ⟨_, k3, h3, h⟩ := bind_eq.1 h
  obtain ⟨t, k4, h4, h⟩ := bind_eq.1 h
  obtain ⟨_, k5, h5, h⟩ := bind_eq.1 h
  obtain ⟨b, k6, h6, h⟩ := bind_eq.1 h
  obtain ⟨_, k7, h7, h⟩ := bind_eq.1 h
  cases h
  have a1 : k1 = k + 1 := by
    unfold nameOfP nameP at h1
    split at h1
    · cases h1
    · split at h1
      · cases h1; rfl
      · cases h1
  have a2 : k1 ≤ k2 := by have := ge_params M L f k1; rw [h2] at this; exact this
  have a3 : k2 ≤ k3 := by have := ge_must M [58] k2; rw [h3] at this; exact this
  have a4 : k3 ≤ k4 := by have := ge_type M k3; rw [h4] at this; exact this
  have a5 : k4 ≤ k5 := by have := ge_must M [61] k4; rw [h5] at this; exact this
  have a6 : k5 ≤ k6 := by have := (allGe M L f).exprP 0 k5; rw [h6] at this; exact this
  have a7 : k6 ≤ j := by have := ge_must M [59] k6; rw [h7] at this; exact this
  omega

set_option maxHeartbeats 8000000 in
theorem program_any (I : Rdi) (hE : Ends I.M I.n) (f : Nat) (w : World) (R k : Nat) (h : Rdr I w R k 0) (hne : progL I.M (lmOf I) f [] k ≠ .out) :
    Calls Tryz.prog 19 #[.pointer (some ⟨R, 0, none⟩)] w fun e w' => Ans I R 0 w (prV w.heap.size) (progL I.M (lmOf I) f [] k) e w' := by
  obtain ⟨r, hr⟩ : ∃ r, r = progL I.M (lmOf I) f [] k := ⟨_, rfl⟩
  rw [← hr] at hne ⊢
  cases f with
  | zero => exact absurd (hr.trans (by rw [progL])) hne
  | succ f =>
  rw [progL] at hr
  have HR : Hid (r = (defP I.M (lmOf I) f 0 k).bind fun g k1 => if (I.M k1).kind = 4 then .ok [g] k1 else progL I.M (lmOf I) f [g] k1) := hr
  clear hr
  have hlt := h.lt
  have hB0 := Bk.new w 29 #[.slice none 0 0]
  have hb0 := below_alloc w (.cells #[.slice none 0 0] 29)
  have h1 := h.up hb0
  have hU1 := bel_but hb0 R
  have hn1 := bind_ne HR hne
  have hda := def_any I hE f 0 _ R k h1 hn1
  rw [show ((0 + 1 : Nat) : Int) = 1 from rfl] at hda
  go_enter Tryz.func19, Tryz.ntmps19
  go_wp2_with fail
  refine hda.mono ?_
  rintro e w2 ⟨hV2, ha⟩
  cases hq2 : defP I.M (lmOf I) f 0 k with
  | out => exact absurd hq2 hn1
  | bad y j =>
    rw [hq2] at ha
    rw [show e = _ from ha]
    have HR := bind_bad HR hq2
    clear ha hq2 hda
    unfold gaveUp
    go_wp2
    exact ⟨rfl, ans_bad HR (hU1.trans hV2) rfl⟩
  | ok g0 k1 =>
    rw [hq2] at ha
    obtain ⟨⟨v, rfl, vs, rfl, hxg⟩, h2⟩ := ha
    obtain ⟨x0, x1, x2, x3, x4, x5, x6, x7, x8, x9, x10, rfl⟩ := list11 hxg.len
    have HR := bind_ok HR hq2
    have hg01 := def_gt hq2
    clear hq2 hn1 hda
    have hU2 := hU1.trans hV2
    have hB2 := hB0.but hV2 (by omega)
    have hl2 := hB2.lt
    have hb3 := below_alloc w2 (.cells #[x0, x1, x2, x3, x4, x5, x6, x7, x8, x9, x10] 43)
    have h3 := h2.up hb3
    have hU3 := hU2.then hb3
    have hB3 := hB2.up hb3
    have es1 : (w.alloc (.cells #[.slice none 0 0] 29)).heap.size = w.heap.size + 1 := by simp
    have HW : Hid (FRow (w2.alloc (.cells #[x0, x1, x2, x3, x4, x5, x6, x7, x8, x9, x10] 43)) (w.heap.size + 1) (.slice (some ⟨w2.heap.size, 0, none⟩) 1 1) [g0]) := FRow.new (by omega) (hxg.imp fun b hb _ => by rw [es1] at hb; exact hb)
    go_wp2_with fail
    go_loopw [3] (fun v wr => ∃ (acc : List Fn1) (j g : Nat), Hid (FRow wr (w.heap.size + 1) v acc) ∧ Rdr I wr R j 0 ∧ But R w wr ∧ Bk wr w.heap.size 29 [.slice none 0 0] ∧ acc.length ≤ j ∧ Hid (r = if (I.M j).kind = 4 then .ok acc j else progL I.M (lmOf I) g acc j)) (fun _ wr => I.n - posOf R wr)
    case atStart => exact ⟨[g0], k1, f, HW, h3, hU3, hB3, by simp; omega, HR⟩
    case round =>
      clear HW HR h3 hU3 h2 hb3 h1 hB3 hB2 hB0 hxg hU2 hV2
      obtain ⟨acc, j, g, HW, hj, hUr, hBr, hlen, HR⟩ := hrel
      have hpj := hj.pos
      have hsr := hBr.lt
      obtain ⟨ao, cp, rfl, _⟩ := FRow.read (show FRow _ _ _ _ from HW)
      have hf := fun W => (fldM (I.M j) W).1
      go_wp2_with fail
      refine (next_any I wr R j 0 hj).mono ?_
      rintro e w4 ⟨rfl, hb4⟩
      unfold mkV
      have h4 := hj.up hb4
      have hU4 := hUr.then hb4
      have hB4 := hBr.up hb4
      have HW4 : Hid (FRow w4 (w.heap.size + 1) (.slice ao acc.length cp) acc) := FRow.up (show FRow _ _ _ _ from HW) hb4
      have hl4 := hB4.lt
      clear HW hb4
      by_cases hk4 : (I.M j).kind = 4
      · have HR : Hid (r = .ok acc j) := by show r = _; rw [show r = _ from HR, if_pos hk4]
        have hkb : ((I.M j).kind != 4) = false := by simp [hk4]
        clear hk4
        go_wp2_with (refine wpList_storeN rfl 29 (.tmp 2) (.tmp 20) rfl w.heap.size 0 [.slice ao acc.length cp] rfl rfl hB4 (Nat.le_refl 1) Tryz.infoPr (by intro u hu; simp only [List.mem_cons, List.not_mem_nil, or_false] at hu; subst hu; rfl) ?_; intro wz hBz hoz)
        have hrz := h4.oth hoz (by omega) (by omega)
        have hUz := hoz.but hU4 (Nat.le_refl _)
        have q0 := (show Bk wz w.heap.size _ [.slice ao acc.length cp] from hBz).cell 0
        obtain ⟨ao', c', e', hfl, hlc⟩ := (FRow.keep (show FRow w4 _ _ acc from HW4) (Nat.le_of_eq hoz.size.symm) fun b hb _ => hoz.block b (by omega)).read
        cases e'
        refine bodyPost_ret (v := .agg #[.slice ao acc.length cp]) (by simp [results, Tryz.results19, go_sem, q0]) rfl (ans_ok HR hUz ⟨ao, cp, rfl, hfl.imp fun b hb _ => by omega, hlc⟩ hrz)
      · have HR : Hid (r = progL I.M (lmOf I) g acc j) := by show r = _; rw [show r = _ from HR, if_neg hk4]
        have hkb : ((I.M j).kind != 4) = true := by simp [hk4]
        cases g with
        | zero => exact absurd ((show r = _ from HR).trans (by rw [progL])) hne
        | succ g =>
          have hr := show r = _ from HR
          rw [progL] at hr
          have HR : Hid (r = (defP I.M (lmOf I) g acc.length j).bind fun x k1 => if (I.M k1).kind = 4 then .ok (acc ++ [x]) k1 else progL I.M (lmOf I) g (acc ++ [x]) k1) := hr
          clear hr hk4
          have hn5 := bind_ne HR hne
          have hs4 := h4.small
          have hk4 := h4.kn
          have hda := def_any I hE g acc.length w4 R j h4 hn5
          rw [show ((acc.length + 1 : Nat) : Int) = (acc.length : Int) + 1 by omega] at hda
          have hwl : IntKind.i64.wrap ((acc.length : Int) + 1) = (acc.length : Int) + 1 := by rw [IntKind.wrap_i64]; omega
          go_wp2_with fail
          refine hda.mono ?_
          rintro e w6 ⟨hV6, ha⟩
          cases hq6 : defP I.M (lmOf I) g acc.length j with
          | out => exact absurd hq6 hn5
          | bad y i =>
            rw [hq6] at ha
            rw [show e = _ from ha]
            have HR := bind_bad HR hq6
            clear ha hq6 hda
            unfold gaveUp
            go_wp2
            exact ⟨rfl, ans_bad HR (hU4.trans hV6) rfl⟩
          | ok x j2 =>
            rw [hq6] at ha
            obtain ⟨⟨v, rfl, vs, rfl, hxg⟩, h6⟩ := ha
            obtain ⟨y0, y1, y2, y3, y4, y5, y6, y7, y8, y9, y10, rfl⟩ := list11 hxg.len
            have HR := bind_ok HR hq6
            have hj2 := def_gt hq6
            clear hq6 hn5 hda
            have hU6 := hU4.trans hV6
            have hB6 := hB4.but hV6 (by omega)
            have hl6 := hB6.lt
            have hlow := owns_has (show FRow w4 _ _ acc from HW4).cs.choose_spec.1
            obtain ⟨v', w7, hrun, hrow7, hb7⟩ := FRow.app ((show FRow w4 _ _ acc from HW4).but hV6 (by omega)) (by omega) (hxg.imp fun b hb _ => ⟨by omega, fun e => by have := (hlow b e).2; omega⟩) (by omega)
            have HRUN : Hid (_ = _) := hrun
            have HW7 : Hid (FRow w7 (w.heap.size + 1) v' (acc ++ [x])) := hrow7
            have h7 := h6.low hb7 (by omega) (by omega)
            have hU7 := hU6.low (hb7.mono (Nat.le_succ _))
            have hB7 : Bk w7 w.heap.size 29 [.slice none 0 0] := by unfold Bk; rw [hb7.block _ (Nat.lt_succ_self _)]; exact hB6
            have hp7 := h7.pos
            clear hrun hrow7 hlow HW4 hB4 hB6
            go_wp2_with (at_builtin; refine wpList_append_run rfl (.tmp 11) (.tmp 17) 27 rfl rfl _ _ rfl rfl _ _ (show _ = _ from HRUN) ?_)
            go_roundw
            case rel => exact ⟨acc ++ [x], j2, g, HW7, h7, hU7, hB7, by simp; omega, HR⟩
            case measure => rw [hp7, hpj]; omega
end Go.Proofs.YtndgglhppoijnaaGreatDoor
/-
  The walk of Parse: what its deferred function does.
-/
namespace Go.Proofs.YtndgglhppoijnaaGreatDoor
open Go.RowKit
set_option maxRecDepth 100000

/-- All but two blocks is as it was. -/
structure Two (p q : Nat) (w w' : World) : Prop where
  os : w'.os = w.os
  tape : w'.tape = w.tape
  output : w'.output = w.output
  size : w'.heap.size = w.heap.size
  block : ∀ b, b ≠ p → b ≠ q → w'.heap[b]? = w.heap[b]?

theorem Two.refl (p q : Nat) (w : World) : Two p q w w := ⟨rfl, rfl, rfl, rfl, fun _ _ _ => rfl⟩
theorem Two.setP {p q : Nat} {a b : World} (h : Two p q a b) (j : Nat) (v : Value) : Two p q a (b.setCell ⟨p, j, none⟩ v) :=
  ⟨h.os, h.tape, h.output, by simpa [World.setCell] using h.size, fun i hi hn => by rw [Below.heap_setCell _ _ _ _ hi]; exact h.block i hi hn⟩
theorem Two.setQ {p q : Nat} {a b : World} (h : Two p q a b) (j : Nat) (v : Value) : Two p q a (b.setCell ⟨q, j, none⟩ v) :=
  ⟨h.os, h.tape, h.output, by simpa [World.setCell] using h.size, fun i hi hn => by rw [Below.heap_setCell _ _ _ _ hn]; exact h.block i hi hn⟩
theorem Two.drew {p q : Nat} {a b : World} (h : Two p q a b) : Two p q a b.drew := ⟨h.os, h.tape, h.output, h.size, h.block⟩
theorem Bk.out {w : World} {b g j : Nat} {t : TypeId} {vs : List Value} {v : Value} (h : Bk w b t vs) (hn : b ≠ g) : Bk (w.setCell ⟨g, j, none⟩ v) b t vs := h.oth ((Oth.refl g w).set j v) hn

theorem assert_fault (y a : Int) (W : World) : (Instr.typeAssert (.iface 32 (.agg #[.int .i64 y, .int .i64 a])) 20 32 false).run Tryz.prog W = .ok (.agg #[.int .i64 y, .int .i64 a]) W := by
  first
  | rfl
  | simp [Instr.typeAssert, go_sem]

set_option maxHeartbeats 2000000 in
theorem catch_panicking (p q : Nat) (x u v : Value) (y a : Int) (older : List PanicEntry) (w : World) (hP : Bk w p 29 [x]) (hF : Bk w q 32 [u, v]) (hpq : p ≠ q) :
    CallsD Tryz.prog 18 #[.pointer (some ⟨p, 0, none⟩), .pointer (some ⟨q, 0, none⟩)] (.panicking ({ v := .iface 32 (.agg #[.int .i64 y, .int .i64 a]), recovered := false } :: older)) w fun e u' w' =>
      e = .returned (.tuple #[]) ∧ u' = .panicking ({ v := .iface 32 (.agg #[.int .i64 y, .int .i64 a]), recovered := true } :: older) ∧ Bk w' p 29 [.slice none 0 0] ∧ Bk w' q 32 [.int .i64 y, .int .i64 a] ∧ Two p q w w' := by
  have hta := fun W => assert_fault y a W
  have c0 := hP.cell 0
  have z0 := hP.frz 0
  have d0 := hF.cell 0
  have d1 := hF.cell 1
  have f0 := hF.frz 0
  have f1 := hF.frz 1
  refine callsD_of_wpS Tryz.func18 rfl fun c₀ cs hu => ?_
  apply wpS_seq
  apply wpS_region
  simp [wpOpsS, go_sem, recoverD, hu, Tryz.ntmps18, Exit.thenS]
  apply wpS_seq
  apply wpS_region
  simp [wpOpsS, go_sem, Exit.thenS, Array.replicate]
  refine wpS_cond (t := true) (by simp [Act.eval]) ?_
  simp only [if_true]
  refine wpS_of_wp ?_
  go_region
  all_goals
    have e1 : Bk ((((w.setCell ⟨p, 0, none⟩ (.slice none 0 0)).setCell ⟨q, 0, none⟩ (.int .i64 y)).setCell ⟨q, 1, none⟩ (.int .i64 a))) p 29 [.slice none 0 0] := ((hP.set 0 _).out hpq).out hpq
    have e2 : Bk ((((w.setCell ⟨p, 0, none⟩ (.slice none 0 0)).setCell ⟨q, 0, none⟩ (.int .i64 y)).setCell ⟨q, 1, none⟩ (.int .i64 a))) q 32 [.int .i64 y, .int .i64 a] := ((hF.out (fun e => hpq e.symm)).set 0 _).set 1 _
    have e3 := ((((Two.refl p q w).setP 0 (.slice none 0 0)).setQ 0 (.int .i64 y)).setQ 1 (.int .i64 a)).drew
    simp [bodyPostS, results, Tryz.results18]
    exact ⟨e1, e2, e3⟩

set_option maxHeartbeats 1000000 in
theorem catch_idle (p q : Nat) (w : World) :
    CallsD Tryz.prog 18 #[.pointer (some ⟨p, 0, none⟩), .pointer (some ⟨q, 0, none⟩)] .returning w fun e u' w' => e = .returned (.tuple #[]) ∧ u' = .returning ∧ w' = w := by
  refine callsD_of_wpS Tryz.func18 rfl fun c₀ cs hu => ?_
  apply wpS_seq
  apply wpS_region
  simp [wpOpsS, go_sem, recoverD, hu, Tryz.ntmps18, Exit.thenS]
  apply wpS_seq
  apply wpS_region
  simp [wpOpsS, go_sem, Exit.thenS, Array.replicate]
  refine wpS_cond (t := false) (by simp [Act.eval]) ?_
  simp only [Bool.false_eq_true, if_false]
  refine wpS_of_wp (wp_skip ?_)
  cases c₀
  simp_all [bodyPostS, results, Tryz.results18]

/-- The limits as they count. -/
def cT (t : Int) : Int := min (max t 0) 32768

set_option maxHeartbeats 2000000 in
theorem counted_any (lt lf la ln : Int) (w : World) :
    Calls Tryz.prog 16 #[.agg #[.int .i64 lt, .int .i64 lf, .int .i64 la, .int .i64 ln]] w fun e w' => e = .returned (.agg #[.int .i64 (cT lt), .int .i64 (max lf 0), .int .i64 (max la 0), .int .i64 (max ln 0)]) ∧ Below w.heap.size w w' := by
  go_enter Tryz.func16, Tryz.ntmps16
  go_wp2
  refine bodyPost_ret (v := .agg #[.int .i64 (cT lt), .int .i64 (max lf 0), .int .i64 (max la 0), .int .i64 (max ln 0)]) (by simp [results, Tryz.results16, go_sem, cT]) rfl ⟨rfl, below_two w _ _⟩
end Go.Proofs.YtndgglhppoijnaaGreatDoor
/-
  The walk of Parse.
-/
namespace Go.Proofs.YtndgglhppoijnaaGreatDoor
open Go.RowKit
set_option maxRecDepth 100000

/-- A program without definitions, and a fault. -/
def noneV (y a : Int) : Value := .tuple #[.agg #[.slice none 0 0], .agg #[.int .i64 y, .int .i64 a]]

theorem FlW.keep {w w' : World} {A : Nat → Prop} {ao : Option Addr} {gs : List Fn1} (h : FlW w A ao gs) (hs : w.heap.size ≤ w'.heap.size) (hk : ∀ b, A b → b < w.heap.size → w'.heap[b]? = w.heap[b]?) : FlW w' A ao gs := by
  rcases h with h | ⟨g, cs, e, ha, hl, hr, hf⟩
  · exact .inl h
  · refine .inr ⟨g, cs, e, ha, by omega, fun j v hv => ?_, hf.keep hs hk⟩
    rw [show w'.cell? ⟨g, 0 + j, none⟩ = w.cell? ⟨g, 0 + j, none⟩ from World.cell?_of_block (w := w) (hk g ha hl)]
    exact hr j v hv
theorem Two.below {p q B : Nat} {a b : World} (h : Two p q a b) (hp : B ≤ p) (hq : B ≤ q) : Below B a b := ⟨h.os, h.tape, h.output, Nat.le_of_eq h.size.symm, fun k hk => h.block k (by omega) (by omega)⟩

/-- What Parse answers. -/
def paV (l : List UInt8) (lt lf la ln : Int) (f : Nat) (B : Nat) (e : Ending) (w' : World) : Prop :=
  if cT lt < l.length then e = .returned (noneV 22 (cT lt)) else
  match cut rdN l 0 with
  | .bad k => e = .returned (noneV 20 k)
  | .ok ms => match progL (mf ms) ⟨max lf 0, max la 0, max ln 0⟩ f [] 0 with
    | .ok gs _ => ∃ ao c, e = .returned (.tuple #[.agg #[.slice ao gs.length c], .agg #[.int .i64 0, .int .i64 0]]) ∧ FlW w' (fun b => B ≤ b) ao gs ∧ gs.length ≤ c
    | .bad y k => e = .returned (noneV y (mf ms k).at_)
    | .out => True

theorem Tryz.underL : Tryz.prog.underlying 25 = some (.struct (Tryz.prog.underlying 25 |>.map (fun | .struct f => f | _ => #[]) |>.getD #[])) := by kernel_rfl
theorem Tryz.infoL : (Tryz.prog.info? 25).map (·.size) = some 4 := by kernel_rfl

set_option maxHeartbeats 8000000 in
theorem langParse_all (ao : Option Addr) (cap : Nat) (l : List UInt8) (hcap : l.length ≤ cap) (lt lf la ln : Int) (hln : ln ≤ 9223372036854775807) (w : World) (hG : Gl w) (hE : Env w) (hT : Bd w ao l) (f : Nat)
    (hf : ∀ ms, cut rdN l 0 = .ok ms → progL (mf ms) ⟨max lf 0, max la 0, max ln 0⟩ f [] 0 ≠ .out) :
    Calls Tryz.prog 8 #[.slice ao l.length cap, .agg #[.int .i64 lt, .int .i64 lf, .int .i64 la, .int .i64 ln]] w fun e w' => Below w.heap.size w w' ∧ paV l lt lf la ln f w.heap.size e w' := by
  have hmf : ∀ (fn : Fn) (first cap : Array Value) (w : World), (Instr.makeFunc fn first cap).run Tryz.prog w = .ok (.func fn first cap) w := fun _ _ _ _ => rfl
  go_enter_defers Tryz.func8, Tryz.ntmps8
  go_wp2_with fail
  have hL0 := ((Bk.new w 25 #[.int .i64 lt, .int .i64 lf, .int .i64 la, .int .i64 ln]).up (below_alloc _ (.cells #[.slice none 0 0] 29))).up (below_alloc _ (.cells #[.int .i64 0, .int .i64 0] 32))
  have hP0 := (Bk.newAt (w := w.alloc (.cells #[.int .i64 lt, .int .i64 lf, .int .i64 la, .int .i64 ln] 25)) (n := w.heap.size + 1) 29 #[.slice none 0 0] (by simp)).up (below_alloc _ (.cells #[.int .i64 0, .int .i64 0] 32))
  have hF0 := Bk.newAt (w := (w.alloc (.cells #[.int .i64 lt, .int .i64 lf, .int .i64 la, .int .i64 ln] 25)).alloc (.cells #[.slice none 0 0] 29)) (n := w.heap.size + 1 + 1) 32 #[.int .i64 0, .int .i64 0] (by simp)
  have hB0 := Below.thn (below_two w (.cells #[.int .i64 lt, .int .i64 lf, .int .i64 la, .int .i64 ln] 25) (.cells #[.slice none 0 0] 29)) (below_alloc _ (.cells #[.int .i64 0, .int .i64 0] 32))
  refine (counted_any lt lf la ln _).mono ?_
  rintro e w1 ⟨rfl, hb1⟩
  have hL1 : Bk w1 w.heap.size 25 [.int .i64 lt, .int .i64 lf, .int .i64 la, .int .i64 ln] := hL0.up hb1
  have hP1 : Bk w1 (w.heap.size + 1) 29 [.slice none 0 0] := hP0.up hb1
  have hF1 : Bk w1 (w.heap.size + 1 + 1) 32 [.int .i64 0, .int .i64 0] := hF0.up hb1
  have hB1 := Below.thn hB0 hb1
  clear hL0 hP0 hF0 hB0 hb1
  by_cases hbig : cT lt < l.length
  · have hbd : decide (cT lt < (l.length : Int)) = true := by rw [decide_eq_true_eq]; exact hbig
    go_wp2_with (refine wpList_storeN rfl 25 (.tmp 3) (.tmp 9) rfl w.heap.size 0 [.int .i64 (cT lt), .int .i64 (max lf 0), .int .i64 (max la 0), .int .i64 (max ln 0)] rfl rfl hL1 (Nat.le_refl 4) Tryz.infoL (by intro u hu; simp only [List.mem_cons, List.not_mem_nil, or_false] at hu; rcases hu with rfl | rfl | rfl | rfl <;> rfl) ?_; intro w2 hL2 ho2; have c0 := (show Bk w2 w.heap.size 25 [.int .i64 (cT lt), .int .i64 (max lf 0), .int .i64 (max la 0), .int .i64 (max ln 0)] from hL2).four.1)
    have hP2 := hP1.oth ho2 (by omega)
    have hF2 := hF1.oth ho2 (by omega)
    have hB2 : Below w.heap.size w w2 := hB1.trans (ho2.below (Nat.le_refl _))
    have e0 := hP2.cell 0
    have e1 := hP2.frz 0
    have d0 := hF2.cell 0
    have d1 := hF2.cell 1
    have d2 := hF2.frz 0
    have d3 := hF2.frz 1
    go_region
    all_goals
      go_wp2
      have e1 : Bk ((((w2.setCell ⟨w.heap.size + 1, 0, none⟩ (.slice none 0 0)).setCell ⟨w.heap.size + 1 + 1, 0, none⟩ (.int .i64 22)).setCell ⟨w.heap.size + 1 + 1, 1, none⟩ (.int .i64 (cT lt))).drew) (w.heap.size + 1) 29 [.slice none 0 0] := ((hP2.set 0 _).out (by omega)).out (by omega)
      have e2 : Bk ((((w2.setCell ⟨w.heap.size + 1, 0, none⟩ (.slice none 0 0)).setCell ⟨w.heap.size + 1 + 1, 0, none⟩ (.int .i64 22)).setCell ⟨w.heap.size + 1 + 1, 1, none⟩ (.int .i64 (cT lt))).drew) (w.heap.size + 1 + 1) 32 [.int .i64 22, .int .i64 (cT lt)] := ((hF2.out (by omega)).set 0 _).set 1 _
      have e3 := ((((Two.refl (w.heap.size + 1) (w.heap.size + 1 + 1) w2).setP 0 (.slice none 0 0)).setQ 0 (.int .i64 22)).setQ 1 (.int .i64 (cT lt))).drew
      have p0 : ((((w2.setCell ⟨w.heap.size + 1, 0, none⟩ (.slice none 0 0)).setCell ⟨w.heap.size + 1 + 1, 0, none⟩ (.int .i64 22)).setCell ⟨w.heap.size + 1 + 1, 1, none⟩ (.int .i64 (cT lt))).drew).cell? ⟨w.heap.size + 1, 0, none⟩ = some (.slice none 0 0) := e1.cell 0
      have f0 : ((((w2.setCell ⟨w.heap.size + 1, 0, none⟩ (.slice none 0 0)).setCell ⟨w.heap.size + 1 + 1, 0, none⟩ (.int .i64 22)).setCell ⟨w.heap.size + 1 + 1, 1, none⟩ (.int .i64 (cT lt))).drew).cell? ⟨w.heap.size + 1 + 1, 0, none⟩ = some (.int .i64 22) := e2.cell 0
      have f1 : ((((w2.setCell ⟨w.heap.size + 1, 0, none⟩ (.slice none 0 0)).setCell ⟨w.heap.size + 1 + 1, 0, none⟩ (.int .i64 22)).setCell ⟨w.heap.size + 1 + 1, 1, none⟩ (.int .i64 (cT lt))).drew).cell? ⟨w.heap.size + 1 + 1, 1, none⟩ = some (.int .i64 (cT lt)) := e2.cell 1
      have hfin : Below w.heap.size w ((((w2.setCell ⟨w.heap.size + 1, 0, none⟩ (.slice none 0 0)).setCell ⟨w.heap.size + 1 + 1, 0, none⟩ (.int .i64 22)).setCell ⟨w.heap.size + 1 + 1, 1, none⟩ (.int .i64 (cT lt))).drew) ∧ paV l lt lf la ln f w.heap.size (.returned (noneV 22 (cT lt))) ((((w2.setCell ⟨w.heap.size + 1, 0, none⟩ (.slice none 0 0)).setCell ⟨w.heap.size + 1 + 1, 0, none⟩ (.int .i64 22)).setCell ⟨w.heap.size + 1 + 1, 1, none⟩ (.int .i64 (cT lt))).drew) := by
        refine ⟨hB2.trans (e3.below (by omega) (by omega)), ?_⟩
        unfold paV
        rw [if_pos (by omega)]
      generalize hW : (((w2.setCell ⟨w.heap.size + 1, 0, none⟩ (.slice none 0 0)).setCell ⟨w.heap.size + 1 + 1, 0, none⟩ (.int .i64 22)).setCell ⟨w.heap.size + 1 + 1, 1, none⟩ (.int .i64 (cT lt))).drew = W at *
      simp [bodyPostD, Leaves, results, Tryz.results8, go_sem, p0, f0, f1]
      exact hfin
  · have hbd : decide (cT lt < (l.length : Int)) = false := by rw [decide_eq_false_iff_not]; exact hbig
    go_wp2_with (refine wpList_storeN rfl 25 (.tmp 3) (.tmp 9) rfl w.heap.size 0 [.int .i64 (cT lt), .int .i64 (max lf 0), .int .i64 (max la 0), .int .i64 (max ln 0)] rfl rfl hL1 (Nat.le_refl 4) Tryz.infoL (by intro u hu; simp only [List.mem_cons, List.not_mem_nil, or_false] at hu; rcases hu with rfl | rfl | rfl | rfl <;> rfl) ?_; intro w2 hL2 ho2; have c0 := (show Bk w2 w.heap.size 25 [.int .i64 (cT lt), .int .i64 (max lf 0), .int .i64 (max la 0), .int .i64 (max ln 0)] from hL2).four.1)
    have hL2 : Bk w2 w.heap.size 25 [.int .i64 (cT lt), .int .i64 (max lf 0), .int .i64 (max la 0), .int .i64 (max ln 0)] := hL2
    have hB2 : Below w.heap.size w w2 := hB1.trans (ho2.below (Nat.le_refl _))
    have hP2 := hP1.oth ho2 (by omega)
    have hF2 := hF1.oth ho2 (by omega)
    refine (marks_val ao cap l (by unfold cT at hbig; omega) hcap w2 (hG.up hB2) (env_keep hE hB2) (hT.up hB2)).mono ?_
    rintro e w3 ⟨gx, px, rfl, hox, hrx, hb3⟩
    obtain ⟨cA, hcA⟩ : ∃ c, c = cut rdN l 0 := ⟨_, rfl⟩
    rw [← hcA] at hrx hox ⊢
    have hw2 := hF2.lt
    have hL3 := hL2.up hb3
    have hP3 := hP2.up hb3
    have hF3 := hF2.up hb3
    have hB3 := Below.thn hB2 hb3
    have c0 := hL3.four.1
    have hcT : (l.length : Int) ≤ 32768 := by unfold cT at hbig; omega
    clear hL1 hP1 hF1 hB1 hL2 hP2 hF2 hB2 ho2 hb3
    cases cA with
    | bad k =>
      have HA : Hid (Cu.bad k = cut rdN l 0) := hcA
      simp only [msC, fwC, faC] at hrx ⊢
      clear hcA hf hrx hox
      go_wp2_with (refine wpList_storeN rfl 32 (.tmp 5) (.tmp 23) rfl (w.heap.size + 1 + 1) 0 [.int .i64 20, .int .i64 k] rfl rfl hF3 (Nat.le_refl 2) Tryz.infoF (by intro u hu; simp only [List.mem_cons, List.not_mem_nil, or_false] at hu; rcases hu with rfl | rfl <;> rfl) ?_; intro w4 hF4 ho4; have hF4 : Bk w4 (w.heap.size + 1 + 1) 32 [.int .i64 20, .int .i64 k] := hF4; have d0 := hF4.cell 0; have d1 := hF4.cell 1; have d2 := hF4.frz 0; have d3 := hF4.frz 1; have hP4 := hP3.oth ho4 (by omega); have e0 := hP4.cell 0; have e1 := hP4.frz 0)
      go_region
      all_goals
        go_wp2
        have e1 : Bk ((((w4.setCell ⟨w.heap.size + 1, 0, none⟩ (.slice none 0 0)).setCell ⟨w.heap.size + 1 + 1, 0, none⟩ (.int .i64 20)).setCell ⟨w.heap.size + 1 + 1, 1, none⟩ (.int .i64 k)).drew) (w.heap.size + 1) 29 [.slice none 0 0] := ((hP4.set 0 _).out (by omega)).out (by omega)
        have e2 : Bk ((((w4.setCell ⟨w.heap.size + 1, 0, none⟩ (.slice none 0 0)).setCell ⟨w.heap.size + 1 + 1, 0, none⟩ (.int .i64 20)).setCell ⟨w.heap.size + 1 + 1, 1, none⟩ (.int .i64 k)).drew) (w.heap.size + 1 + 1) 32 [.int .i64 20, .int .i64 k] := ((hF4.out (by omega)).set 0 _).set 1 _
        have e3 := ((((Two.refl (w.heap.size + 1) (w.heap.size + 1 + 1) w4).setP 0 (.slice none 0 0)).setQ 0 (.int .i64 20)).setQ 1 (.int .i64 k)).drew
        have p0 : ((((w4.setCell ⟨w.heap.size + 1, 0, none⟩ (.slice none 0 0)).setCell ⟨w.heap.size + 1 + 1, 0, none⟩ (.int .i64 20)).setCell ⟨w.heap.size + 1 + 1, 1, none⟩ (.int .i64 k)).drew).cell? ⟨w.heap.size + 1, 0, none⟩ = some (.slice none 0 0) := e1.cell 0
        have f0 : ((((w4.setCell ⟨w.heap.size + 1, 0, none⟩ (.slice none 0 0)).setCell ⟨w.heap.size + 1 + 1, 0, none⟩ (.int .i64 20)).setCell ⟨w.heap.size + 1 + 1, 1, none⟩ (.int .i64 k)).drew).cell? ⟨w.heap.size + 1 + 1, 0, none⟩ = some (.int .i64 20) := e2.cell 0
        have f1 : ((((w4.setCell ⟨w.heap.size + 1, 0, none⟩ (.slice none 0 0)).setCell ⟨w.heap.size + 1 + 1, 0, none⟩ (.int .i64 20)).setCell ⟨w.heap.size + 1 + 1, 1, none⟩ (.int .i64 k)).drew).cell? ⟨w.heap.size + 1 + 1, 1, none⟩ = some (.int .i64 k) := e2.cell 1
        have hfin : Below w.heap.size w ((((w4.setCell ⟨w.heap.size + 1, 0, none⟩ (.slice none 0 0)).setCell ⟨w.heap.size + 1 + 1, 0, none⟩ (.int .i64 20)).setCell ⟨w.heap.size + 1 + 1, 1, none⟩ (.int .i64 k)).drew) ∧ paV l lt lf la ln f w.heap.size (.returned (noneV 20 k)) ((((w4.setCell ⟨w.heap.size + 1, 0, none⟩ (.slice none 0 0)).setCell ⟨w.heap.size + 1 + 1, 0, none⟩ (.int .i64 20)).setCell ⟨w.heap.size + 1 + 1, 1, none⟩ (.int .i64 k)).drew) := by
          refine ⟨(hB3.trans (ho4.below (by omega))).trans (e3.below (by omega) (by omega)), ?_⟩
          unfold paV
          rw [if_neg (by omega), ← show Cu.bad k = _ from HA]
        generalize hW : (((w4.setCell ⟨w.heap.size + 1, 0, none⟩ (.slice none 0 0)).setCell ⟨w.heap.size + 1 + 1, 0, none⟩ (.int .i64 20)).setCell ⟨w.heap.size + 1 + 1, 1, none⟩ (.int .i64 k)).drew = W at *
        simp [bodyPostD, Leaves, results, Tryz.results8, go_sem, p0, f0, f1]
        exact hfin
    | ok ms =>
      have hrow := cut_row rdN _ _ _ hcA.symm
      have hfew := cut_few _ _ _ hcA.symm
      have hne := hf ms hcA.symm
      have HA : Hid (Cu.ok ms = cut rdN l 0) := hcA
      have HR : Hid (Row1 0 (0 + l.length) ms) := hrow
      simp only [msC, fwC, faC] at hrx ⊢
      clear hcA hf
      have hpos := hrow.pos
      obtain ⟨bx, ox, rfl, _⟩ := hrx.pl (by intro e; rw [e] at hpos; simp at hpos)
      go_wp2_with (first
        | (refine wpList_storeN rfl 32 (.tmp 5) (.tmp 23) rfl (w.heap.size + 1 + 1) 0 [.int .i64 0, .int .i64 0] rfl rfl hF3 (Nat.le_refl 2) Tryz.infoF (by intro u hu; simp only [List.mem_cons, List.not_mem_nil, or_false] at hu; rcases hu with rfl | rfl <;> rfl) ?_; intro w4 hF4 ho4; have d0 := (show Bk w4 (w.heap.size + 1 + 1) 32 [.int .i64 0, .int .i64 0] from hF4).cell 0; have hL4 := hL3.oth ho4 (by omega); have hP4 := hP3.oth ho4 (by omega))
        | refine wpList_loadN rfl 25 (.tmp 3) rfl w.heap.size 0 rfl [.int .i64 (cT lt), .int .i64 (max lf 0), .int .i64 (max la 0), .int .i64 (max ln 0)] _ (hL4.range 0 4) Tryz.underL Tryz.infoL ?_)
      have hF4 : Bk w4 (w.heap.size + 1 + 1) 32 [.int .i64 0, .int .i64 0] := hF4
      have hB4 : Below w.heap.size w w4 := hB3.trans (ho4.below (by omega))
      have hbx : w2.heap.size ≤ bx := by
        rcases hox.2 with ⟨h', _⟩ | ⟨g', cap', cur', h', hb, _⟩
        · simp at h'
        · simp only [msC, Value.slice.injEq, Option.some.injEq, Addr.mk.injEq, and_true, true_and] at h'
          omega
      obtain ⟨I, hI⟩ : ∃ I : Rdi, I = ⟨bx, ox, px, ms.length, mf ms, cT lt, max lf 0, max la 0, max ln 0⟩ := ⟨_, rfl⟩
      have hrx4 : ∀ t, t < ms.length → M4 w4 bx (ox + t * 4) (mf ms t) := by
        intro t ht
        have h1 := hrx.at t ht
        have e : mf ms t = ms.getD t md := by unfold mf; simp [List.getD_eq_getElem?_getD, ht]
        rw [e]
        obtain ⟨m1, m2, m3, m4⟩ := h1
        exact ⟨(ho4.cell (a := ⟨bx, _, none⟩) (by show bx ≠ _; omega)).trans m1, (ho4.cell (a := ⟨bx, _, none⟩) (by show bx ≠ _; omega)).trans m2, (ho4.cell (a := ⟨bx, _, none⟩) (by show bx ≠ _; omega)).trans m3, (ho4.cell (a := ⟨bx, _, none⟩) (by show bx ≠ _; omega)).trans m4⟩
      have hb5 := below_alloc w4 (.cells #[.slice (some ⟨bx, ox, none⟩) ms.length px, .int .i64 0, .int .i64 (cT lt), .int .i64 (max lf 0), .int .i64 (max la 0), .int .i64 (max ln 0), .int .i64 0] 64)
      have hrd : Rdr I (w4.alloc (.cells #[.slice (some ⟨bx, ox, none⟩) ms.length px, .int .i64 0, .int .i64 (cT lt), .int .i64 (max lf 0), .int .i64 (max la 0), .int .i64 (max ln 0), .int .i64 0] 64)) w4.heap.size 0 0 := by
        subst hI
        exact ⟨Bk.new w4 64 #[.slice (some ⟨bx, ox, none⟩) ms.length px, .int .i64 0, .int .i64 (cT lt), .int .i64 (max lf 0), .int .i64 (max la 0), .int .i64 (max ln 0), .int .i64 0], fun t ht => (hrx4 t ht).to (hrx4 t ht).lt hb5, Nat.ne_of_lt (hrx4 0 hpos).lt, hpos, by decide, by show max ln 0 ≤ _; omega, by show ms.length ≤ _; omega⟩
      have hIn : I.n = ms.length := by rw [hI]
      have hIM : I.M = mf ms := by rw [hI]
      have hIL : lmOf I = ⟨max lf 0, max la 0, max ln 0⟩ := by rw [hI]; rfl
      have hEn : Ends I.M I.n := by rw [hIn, hIM]; exact (show Row1 0 _ ms from HR).ends
      have hpr := program_any I hEn f _ w4.heap.size 0 hrd (by rw [hIM, hIL]; exact hne)
      rw [hIM, hIL] at hpr
      have hP5 := hP4.up hb5
      have hF5 := hF4.up hb5
      have hB5 := Below.thn hB4 hb5
      have hw4 := hF4.lt
      have es5 : (w4.alloc (.cells #[.slice (some ⟨bx, ox, none⟩) ms.length px, .int .i64 0, .int .i64 (cT lt), .int .i64 (max lf 0), .int .i64 (max la 0), .int .i64 (max ln 0), .int .i64 0] 64)).heap.size = w4.heap.size + 1 := by simp
      have HIM : Hid (I.M = mf ms) := hIM
      clear hI hrd hL3 hP3 hF3 hL4 hP4 hF4 hrx hrx4 hox d0 c0 hIM hIL hIn hEn hrow
      refine hpr.mono ?_
      rintro e w6 ⟨hV6, ha⟩
      have hP6 := hP5.but hV6 (by omega)
      have hF6 := hF5.but hV6 (by omega)
      have hB6 : Below w.heap.size w w6 := hB5.trans (hV6.below (by omega) hB5.size)
      cases hq : progL (mf ms) ⟨max lf 0, max la 0, max ln 0⟩ f [] 0 with
      | out => exact absurd hq hne
      | bad y j =>
        rw [hq] at ha
        rw [show e = _ from ha]
        unfold gaveUp
        rw [show I.M = mf ms from HIM]
        clear ha hpr
        go_wp2
        refine leaves_cons (f := 18) (args := #[.pointer (some ⟨w.heap.size + 1, 0, none⟩), .pointer (some ⟨w.heap.size + 1 + 1, 0, none⟩)]) (by simp) (by simp [go_sem]) ?_
        refine (catch_panicking (w.heap.size + 1) (w.heap.size + 1 + 1) _ _ _ y _ [] _ hP6 hF6 (by omega)).mono ?_
        rintro e u' w7 ⟨rfl, rfl, hP7, hF7, hT7⟩
        have p0 : w7.cell? ⟨w.heap.size + 1, 0, none⟩ = some (.slice none 0 0) := hP7.cell 0
        have f0 : w7.cell? ⟨w.heap.size + 1 + 1, 0, none⟩ = some (.int .i64 y) := hF7.cell 0
        have f1 : w7.cell? ⟨w.heap.size + 1 + 1, 1, none⟩ = some (.int .i64 (mf ms j).at_) := hF7.cell 1
        have hfin : Below w.heap.size w w7 ∧ paV l lt lf la ln f w.heap.size (.returned (noneV y (mf ms j).at_)) w7 := by
          refine ⟨hB6.trans (hT7.below (by omega) (by omega)), ?_⟩
          unfold paV
          rw [if_neg (by omega), ← show Cu.ok ms = _ from HA]
          dsimp only
          rw [hq]
        simp [Leaves, settle, results, Tryz.results8, go_sem, p0, f0, f1]
        exact hfin
      | ok gs j =>
        rw [hq] at ha
        obtain ⟨⟨v, rfl, ao', c', rfl, hfl, hlc⟩, h6⟩ := ha
        clear hpr
        go_wp2_with (first
          | (refine wpList_storeN rfl 29 (.tmp 4) (.tmp 33) rfl (w.heap.size + 1) 0 [.slice ao' gs.length c'] rfl rfl hP6 (Nat.le_refl 1) Tryz.infoPr (by intro u hu; simp only [List.mem_cons, List.not_mem_nil, or_false] at hu; subst hu; rfl) ?_; intro w7 hP7 ho7; have hF7 := hF6.oth ho7 (by omega))
          | (refine wpList_storeN rfl 32 (.tmp 5) (.tmp 34) rfl (w.heap.size + 1 + 1) 0 [.int .i64 0, .int .i64 0] rfl rfl hF7 (Nat.le_refl 2) Tryz.infoF (by intro u hu; simp only [List.mem_cons, List.not_mem_nil, or_false] at hu; rcases hu with rfl | rfl <;> rfl) ?_; intro w8 hF8 ho8))
        dsimp only [Act.put]
        have hP8 : Bk w8 (w.heap.size + 1) 29 [.slice ao' gs.length c'] := Bk.oth (show Bk w7 (w.heap.size + 1) 29 [.slice ao' gs.length c'] from hP7) ho8 (by omega)
        have hF8 : Bk w8 (w.heap.size + 1 + 1) 32 [.int .i64 0, .int .i64 0] := hF8
        have p0 : w8.cell? ⟨w.heap.size + 1, 0, none⟩ = some (.slice ao' gs.length c') := hP8.cell 0
        have f0 : w8.cell? ⟨w.heap.size + 1 + 1, 0, none⟩ = some (.int .i64 0) := hF8.cell 0
        have f1 : w8.cell? ⟨w.heap.size + 1 + 1, 1, none⟩ = some (.int .i64 0) := hF8.cell 1
        have hfin : Below w.heap.size w w8 ∧ paV l lt lf la ln f w.heap.size (.returned (.tuple #[.agg #[.slice ao' gs.length c'], .agg #[.int .i64 0, .int .i64 0]])) w8 := by
          refine ⟨(hB6.trans (ho7.below (by omega))).trans (ho8.below (by omega)), ?_⟩
          unfold paV
          rw [if_neg (by omega), ← show Cu.ok ms = _ from HA]
          dsimp only
          rw [hq]
          refine ⟨ao', c', rfl, FlW.imp (A := fun b => w4.heap.size + 1 ≤ b) ?_ fun b hb _ => by omega, hlc⟩
          rw [es5] at hfl
          exact (hfl.keep (Nat.le_of_eq ho7.size.symm) fun b hb _ => ho7.block b (by omega)).keep (Nat.le_of_eq ho8.size.symm) fun b hb _ => ho8.block b (by omega)
        refine leaves_cons (f := 18) (args := #[.pointer (some ⟨w.heap.size + 1, 0, none⟩), .pointer (some ⟨w.heap.size + 1 + 1, 0, none⟩)]) (by simp) (by simp [go_sem]) ?_
        refine (catch_idle _ _ _).mono ?_
        rintro e u' w9 ⟨rfl, rfl, rfl⟩
        simp [Leaves, settle, results, Tryz.results8, go_sem, p0, f0, f1]
        exact hfin
theorem langParse_any (ao : Option Addr) (cap : Nat) (l : List UInt8) (_ : l.length ≤ 16777216) (hcap : l.length ≤ cap) (lt lf la ln : Int) (hln : ln ≤ 9223372036854775807) (w : World) (hG : Gl w) (hE : Env w) (hT : Bd w ao l) (f : Nat)
    (hf : ∀ ms, cut rdN l 0 = .ok ms → progL (mf ms) ⟨max lf 0, max la 0, max ln 0⟩ f [] 0 ≠ .out) :
    Calls Tryz.prog 8 #[.slice ao l.length cap, .agg #[.int .i64 lt, .int .i64 lf, .int .i64 la, .int .i64 ln]] w fun e w' => Below w.heap.size w w' ∧ paV l lt lf la ln f w.heap.size e w' := langParse_all ao cap l hcap lt lf la ln hln w hG hE hT f hf
end Go.Proofs.YtndgglhppoijnaaGreatDoor
/-
  The walk of fathomlaw04.awake.
-/
namespace Go.Proofs.YtndgglhppoijnaaGreatDoor
open Go.RowKit
set_option maxRecDepth 100000

def tA : List UInt8 := [102, 40, 120, 32, 78, 41, 58, 78, 61, 120, 43, 49, 59]
def tB : List UInt8 := [102, 40, 120, 41, 58, 78, 61, 120, 59]
def msA : List Mk := [⟨0, [102], 0, 0, 0⟩, ⟨3, [40], 0, 0, 1⟩, ⟨0, [120], 0, 0, 2⟩, ⟨1, [78], 0, 0, 4⟩, ⟨3, [41], 0, 0, 5⟩, ⟨3, [58], 0, 0, 6⟩, ⟨1, [78], 0, 0, 7⟩, ⟨3, [61], 0, 0, 8⟩, ⟨0, [120], 0, 0, 9⟩, ⟨3, [43], 0, 0, 10⟩, ⟨2, [49], 1, 0, 11⟩, ⟨3, [59], 0, 0, 12⟩, ⟨4, [], 0, 0, 13⟩]
def msB : List Mk := [⟨0, [102], 0, 0, 0⟩, ⟨3, [40], 0, 0, 1⟩, ⟨0, [120], 0, 0, 2⟩, ⟨3, [41], 0, 0, 3⟩, ⟨3, [58], 0, 0, 4⟩, ⟨1, [78], 0, 0, 5⟩, ⟨3, [61], 0, 0, 6⟩, ⟨0, [120], 0, 0, 7⟩, ⟨3, [59], 0, 0, 8⟩, ⟨4, [], 0, 0, 9⟩]
def gA : Fn1 := ⟨[102], [⟨[120], 1, 2⟩], 1, .mk 8 [] [] 0 0 0 [.mk 6 [120] [] 0 0 0 [] 9, .mk 1 [] [] 0 1 0 [] 11] 10, 0⟩

theorem cutA : cut rdN tA 0 = .ok msA := by kernel_rfl
theorem cutB : cut rdN tB 0 = .ok msB := by kernel_rfl
theorem progA : progL (mf msA) ⟨max 99 0, max 99 0, max 99 0⟩ 200 [] 0 = .ok [gA] 12 := by kernel_rfl
theorem progB : progL (mf msB) ⟨max 99 0, max 99 0, max 99 0⟩ 200 [] 0 = .bad 21 3 := by kernel_rfl
theorem fl1 : fl 1 = 4607182418800017408 := by kernel_rfl

theorem paA {B : Nat} {e : Ending} {w' : World} (h : paV tA 99 99 99 99 200 B e w') : ∃ ao c, e = .returned (.tuple #[.agg #[.slice ao 1 c], .agg #[.int .i64 0, .int .i64 0]]) ∧ FlW w' (fun b => B ≤ b) ao [gA] := by
  unfold paV at h
  rw [if_neg (by decide), cutA] at h
  dsimp only at h
  rw [progA] at h
  obtain ⟨ao, c, e, hf, _⟩ := h
  exact ⟨ao, c, e, hf⟩
theorem paB {B : Nat} {e : Ending} {w' : World} (h : paV tB 99 99 99 99 200 B e w') : e = .returned (noneV 21 3) := by
  unfold paV at h
  rw [if_neg (by decide), cutB] at h
  dsimp only at h
  rw [progB] at h
  exact h

/-- The cells that awake looks at. -/
theorem seeA {w : World} {A : Nat → Prop} {ao : Option Addr} (h : FlW w A ao [gA]) : ∃ g aoP cP gg off cA, ao = some ⟨g, 0, none⟩ ∧ g < w.heap.size ∧ gg < w.heap.size ∧
    w.cell? ⟨g, 1, none⟩ = some (.slice aoP 1 cP) ∧ w.cell? ⟨g, 3, none⟩ = some (.int .i64 8) ∧ w.cell? ⟨g, 8, none⟩ = some (.slice (some ⟨gg, off, none⟩) 2 cA) ∧ w.cell? ⟨g, 9, none⟩ = some (.int .i64 10) ∧ w.cell? ⟨gg, off + 7 + 4, none⟩ = some (.complex .f64 4607182418800017408 0) := by
  rcases h with h | ⟨g, cs, e, ha, hl, hr, hf⟩
  · cases h
  · cases hf with
    | cons h1 h2 =>
      obtain ⟨aoP, cP, es, rfl, hp, hx⟩ := h1
      cases hx with
      | @mk op name tail ty p q xs pos ao2 c2 hel =>
        cases hel with
        | @cons b off x vs xs ha2 hr2 hx2 hel2 =>
          cases hel2 with
          | @cons b2 off2 x2 vs2 xs2 ha3 hr3 hx3 hel3 =>
            cases hx3 with
            | mk hel4 =>
              have k1 := hr 1 _ rfl
              have k3 := hr 3 _ rfl
              have k8 := hr 8 _ rfl
              have k9 := hr 9 _ rfl
              have k4 := hr3 4 _ rfl
              rw [fl1, fl_zero] at k4
              exact ⟨g, aoP, cP, b, off, c2, e, hl, cell_lt k4, k1, k3, k8, k9, k4⟩

set_option maxHeartbeats 4000000 in
theorem awake4_any (w : World) (hG : Gl w) (hE : Env w) :
    Calls Tryz.prog 6 #[] w fun e w' => e = .returned (.bool true) ∧ Below w.heap.size w w' := by
  have hb0 := below_alloc w (.cells #[.int .i64 99, .int .i64 99, .int .i64 99, .int .i64 99] 25)
  have es0 : (w.alloc (.cells #[.int .i64 99, .int .i64 99, .int .i64 99, .int .i64 99] 25)).heap.size = w.heap.size + 1 := by simp
  have hL0 := Bk.new w 25 #[.int .i64 99, .int .i64 99, .int .i64 99, .int .i64 99]
  have hcs := Lib.run_convert_bytes_const (P := Tryz.prog) (w.alloc (.cells #[.int .i64 99, .int .i64 99, .int .i64 99, .int .i64 99] 25)) 22 5 #[.int .u8 102, .int .u8 40, .int .u8 120, .int .u8 32, .int .u8 78, .int .u8 41, .int .u8 58, .int .u8 78, .int .u8 61, .int .u8 120, .int .u8 43, .int .u8 49, .int .u8 59] 13 13 (by kernel_rfl) (by kernel_rfl)
  have hbd := Bd.new (w.alloc (.cells #[.int .i64 99, .int .i64 99, .int .i64 99, .int .i64 99] 25)) tA 5 (13, 14)
  rw [es0] at hcs hbd
  have hb1 := below_two w (.cells #[.int .i64 99, .int .i64 99, .int .i64 99, .int .i64 99] 25) (.cells #[.int .u8 102, .int .u8 40, .int .u8 120, .int .u8 32, .int .u8 78, .int .u8 41, .int .u8 58, .int .u8 78, .int .u8 61, .int .u8 120, .int .u8 43, .int .u8 49, .int .u8 59] 5 (13, 14))
  have hL1 := hL0.up (below_alloc _ (.cells #[.int .u8 102, .int .u8 40, .int .u8 120, .int .u8 32, .int .u8 78, .int .u8 41, .int .u8 58, .int .u8 78, .int .u8 61, .int .u8 120, .int .u8 43, .int .u8 49, .int .u8 59] 5 (13, 14)))
  have m1 := langParse_any (some ⟨w.heap.size + 1, 0, none⟩) 13 tA (by decide) (by decide) 99 99 99 99 (by decide) _ (hG.up hb1) (env_keep hE hb1) hbd 200 (fun ms e => by rw [cutA] at e; cases e; rw [progA]; simp)
  obtain ⟨l0, l1, l2, l3⟩ := Bk.four (show Bk _ w.heap.size 25 [_, _, _, _] from hL1)
  go_enter Tryz.func6, Tryz.ntmps6
  go_wp2_with fail
  refine m1.mono ?_
  rintro e w2 ⟨hb2, ha⟩
  obtain ⟨ao, c, rfl, hfl⟩ := paA ha
  obtain ⟨g, aoP, cP, gg, off, cA, rfl, hg, hgg, k1, k3, k8, k9, k4⟩ := seeA hfl
  have hB2 := Below.thn hb1 hb2
  have q3 := below_two w2 (.cells #[.slice (some ⟨g, 0, none⟩) 1 c] 29) (.cells #[.int .i64 0, .int .i64 0] 32)
  have q4 := Below.thn q3 (below_alloc ((w2.alloc (.cells #[.slice (some ⟨g, 0, none⟩) 1 c] 29)).alloc (.cells #[.int .i64 0, .int .i64 0] 32)) (.cells #[.int .u8 102, .int .u8 40, .int .u8 120, .int .u8 41, .int .u8 58, .int .u8 78, .int .u8 61, .int .u8 120, .int .u8 59] 5 (9, 10)))
  have hB4 := Below.thn hB2 q4
  have es3 : ((w2.alloc (.cells #[.slice (some ⟨g, 0, none⟩) 1 c] 29)).alloc (.cells #[.int .i64 0, .int .i64 0] 32)).heap.size = w2.heap.size + 1 + 1 := by simp
  have hcs2 := Lib.run_convert_bytes_const (P := Tryz.prog) ((w2.alloc (.cells #[.slice (some ⟨g, 0, none⟩) 1 c] 29)).alloc (.cells #[.int .i64 0, .int .i64 0] 32)) 22 5 #[.int .u8 102, .int .u8 40, .int .u8 120, .int .u8 41, .int .u8 58, .int .u8 78, .int .u8 61, .int .u8 120, .int .u8 59] 9 9 (by kernel_rfl) (by kernel_rfl)
  have hbd2 := Bd.new ((w2.alloc (.cells #[.slice (some ⟨g, 0, none⟩) 1 c] 29)).alloc (.cells #[.int .i64 0, .int .i64 0] 32)) tB 5 (9, 10)
  rw [es3] at hcs2 hbd2
  have hL4 := (hL1.up hb2).up q4
  obtain ⟨n0, n1, n2, n3⟩ := Bk.four (show Bk _ w.heap.size 25 [_, _, _, _] from hL4)
  have hp3 := (Bk.new w2 29 #[.slice (some ⟨g, 0, none⟩) 1 c]).up (below_alloc _ (.cells #[.int .i64 0, .int .i64 0] 32))
  have hf3 := Bk.newAt (w := w2.alloc (.cells #[.slice (some ⟨g, 0, none⟩) 1 c] 29)) (n := w2.heap.size + 1) 32 #[.int .i64 0, .int .i64 0] (by simp)
  have m2 := langParse_any (some ⟨w2.heap.size + 1 + 1, 0, none⟩) 9 tB (by decide) (by decide) 99 99 99 99 (by decide) _ (hG.up hB4) (env_keep hE hB4) hbd2 200 (fun ms e => by rw [cutB] at e; cases e; rw [progB]; simp)
  clear m1 hcs hbd hb0 hL0 hL1 l0 l1 l2 l3 hfl ha hb1 es0
  go_wp2_with fail
  refine m2.mono ?_
  rintro e w4 ⟨hb4, hb⟩
  rw [paB hb]
  unfold noneV
  have q5 := Below.thn (Below.thn (below_alloc ((w2.alloc (.cells #[.slice (some ⟨g, 0, none⟩) 1 c] 29)).alloc (.cells #[.int .i64 0, .int .i64 0] 32)) (.cells #[.int .u8 102, .int .u8 40, .int .u8 120, .int .u8 41, .int .u8 58, .int .u8 78, .int .u8 61, .int .u8 120, .int .u8 59] 5 (9, 10))) hb4) (below_two w4 (.cells #[.slice none 0 0] 29) (.cells #[.int .i64 21, .int .i64 3] 32))
  have q6 := Below.thn q3 q5
  have hB5 := Below.thn hB2 q6
  have hp5 := hp3.up q5
  have hf5 := hf3.up q5
  have j1 := (q6.cell (p := ⟨g, 1, none⟩) hg).trans k1
  have j3 := (q6.cell (p := ⟨g, 3, none⟩) hg).trans k3
  have j8 := (q6.cell (p := ⟨g, 8, none⟩) hg).trans k8
  have j9 := (q6.cell (p := ⟨g, 9, none⟩) hg).trans k9
  have j4 := (q6.cell (p := ⟨gg, off + 7 + 4, none⟩) hgg).trans k4
  have i0 : ((w4.alloc (.cells #[.slice none 0 0] 29)).alloc (.cells #[.int .i64 21, .int .i64 3] 32)).cell? ⟨w2.heap.size, 0, none⟩ = some (.slice (some ⟨g, 0, none⟩) 1 c) := hp5.cell 0
  have i1 : ((w4.alloc (.cells #[.slice none 0 0] 29)).alloc (.cells #[.int .i64 21, .int .i64 3] 32)).cell? ⟨w2.heap.size + 1, 0, none⟩ = some (.int .i64 0) := hf5.cell 0
  have i2 : ((w4.alloc (.cells #[.slice none 0 0] 29)).alloc (.cells #[.int .i64 21, .int .i64 3] 32)).cell? ⟨w2.heap.size + 1, 1, none⟩ = some (.int .i64 0) := hf5.cell 1
  clear m2 hb hcs2 hbd2 hL4 n0 n1 n2 n3 hp3 hf3 hp5 hf5 k1 k3 k8 k9 k4 q5 q6 q3 q4 hB4 hB2 hb4 hb2
  go_wp2
  go_ret
  exact ⟨rfl, hB5⟩
end Go.Proofs.YtndgglhppoijnaaGreatDoor
/-
  The walk of LangFaults: what it leans on.
-/
namespace Go.Proofs.YtndgglhppoijnaaGreatDoor
open Go.RowKit
set_option maxRecDepth 100000

/-- Fuel that serves every text of this length. -/
theorem fuel_ok (l : List UInt8) (L : Lm) (f : Nat) (hf : 12 * (l.length + 1) + 9 ≤ f) (ms : List Mk) (hc : cut rdN l 0 = .ok ms) : progL (mf ms) L f [] 0 ≠ .out := by
  have hr := cut_row rdN _ _ _ hc
  have hfew := cut_few _ _ _ hc
  have hg := gd_prog (mf ms) L hr.ends f [] 0 hr.pos (by omega)
  intro e
  rw [e] at hg
  exact hg

/-- A program that is parsed has a definition. -/
theorem prog_some (M : Nat → Mk) (L : Lm) : ∀ f acc k gs j, progL M L f acc k = .ok gs j → 0 < gs.length := by
  intro f
  induction f with
  | zero => intro acc k gs j h; cases h
  | succ f ih =>
    intro acc k gs j h
    rw [progL] at h
    obtain ⟨g, k1, _, h2⟩ := bind_eq.1 h
    split at h2
    · cases h2; simp
    · exact ih _ _ _ _ h2

set_option maxHeartbeats 1000000 in
theorem copied4_any (ao : Option Addr) (cap : Nat) (l : List UInt8) (hn : ao = none → cap = 0) (hl : l.length ≤ 100000000) (w : World) (hT : Bd w ao l) :
    Calls Tryz.prog 10 #[.slice ao l.length cap] w fun e w' => ∃ v, e = .returned v ∧ Own w' w.heap.size v l ∧ Below w.heap.size w w' := by
  obtain ⟨v', w', hr, ho, hb⟩ := own_app _ _ _ _ (Own.new w) (by simp) ao cap l (hT.up (below_alloc _ _)) hn (by simp) hl
  rw [List.nil_append] at ho
  have HR : Hid (_ = _) := hr
  have hB := (below_alloc w (.cells #[] 5)).trans hb
  clear hr
  go_enter Tryz.func10, Tryz.ntmps10
  go_wp2_with (at_builtin; refine wpList_append_run rfl (.tmp 3) (.tmp 4) 22 rfl rfl _ _ rfl rfl _ _ (show _ = _ from HR) ?_)
  go_ret
  exact ⟨_, rfl, ho, hB⟩

/-- An append whose run is known, as a step of a region that draws its order. -/
theorem step_append_runU {P : Program} {ops : Array Oper} {o : Oper} {a : Act} {w : World} {K : Act → World → Prop} {Q : Exit → Act → World → Prop} {E : Prop}
    (hg : o.guard = none) (s x : Operand) (t u : TypeId) (hop : o.op = Op.call { callee := Callee.builtin Builtin.append, args := #[s, x], argTypes := #[t, u] }) (hty : o.type = t)
    (v y : Value) (hs : a.eval s = v) (hx : a.eval x = y) (v' : Value) (w' : World) (hrun : (Builtin.append_ #[t, u] t #[v, y]).run P w = .ok v' w') (hK : K (a.put o.dst v') w') :
    if Region.wanted o (yielded ops a.tmps) = true then Oper.wp P o a w K Q else E := by
  have hw : Region.wanted o (yielded ops a.tmps) = true := by simp [Region.wanted, hg]
  rw [if_pos hw]
  unfold Oper.wp
  rw [← hty] at hrun
  simp only [execOp, hop, resolve, invoke, builtin, Sem.run_bind, Sem.run_pure, Result.andThen_ok, List.map_toArray, List.map_cons, List.map_nil, hs, hx]
  rw [hty] at hrun ⊢
  rw [hrun]
  exact hK

theorem run_slice_hiB (b o len cap n : Nat) (h : n ≤ cap) (w : World) : (Instr.slice 22 (.slice (some ⟨b, o, none⟩) len cap) none (some (.int .i64 (n : Int))) none).run Tryz.prog w = .ok (.slice (some ⟨b, o, none⟩) n cap) w := by
  simp [Instr.slice, Instr.sliceBounds, Instr.sliceBound, asIntOf, h, run_underlying Tryz.underBs, go_sem]

theorem Bd.take {w : World} {b o : Nat} {l : List UInt8} (h : Bd w (some ⟨b, o, none⟩) l) (n : Nat) : Bd w (some ⟨b, o, none⟩) (l.take n) := by
  refine ⟨fun hne => ?_⟩
  have hl : l ≠ [] := by intro e; subst e; simp at hne
  obtain ⟨b', o', e, hc⟩ := h.pl hl
  refine ⟨b', o', e, fun t ht => ?_⟩
  rw [List.length_take] at ht
  rw [hc t (by omega)]
  simp [List.getD_eq_getElem?_getD, List.getElem?_take]
  rw [if_pos (by omega)]
end Go.Proofs.YtndgglhppoijnaaGreatDoor
