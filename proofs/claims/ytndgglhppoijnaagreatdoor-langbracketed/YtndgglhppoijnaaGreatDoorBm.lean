/-
  What Parse answers, kept; a program and a fault in two new blocks, whatever the order in which they were made.
-/
import Derived.Test.YtndgglhppoijnaaGreatDoorUM
import Derived.Test.YtndgglhppoijnaaGreatDoorUV
import Derived.Test.YtndgglhppoijnaaGreatDoorUI
namespace Go.Proofs.YtndgglhppoijnaaGreatDoor
open Go.RowKit
set_option maxRecDepth 100000

theorem paV_shape {l : List UInt8} {lt lf la ln : Int} {f B : Nat} {e : Ending} {w' : World} (h : paV l lt lf la ln f B e w') (hf : ∀ ms, cut rdN l 0 = .ok ms → progL (mf ms) ⟨max lf 0, max la 0, max ln 0⟩ f [] 0 ≠ .out) :
    ∃ (ao : Option Addr) (n c : Nat) (y a : Int), e = .returned (.tuple #[.agg #[.slice ao n c], .agg #[.int .i64 y, .int .i64 a]]) := by
  rcases paV_cases h hf with ⟨_, h⟩ | ⟨_, k, _, h⟩ | ⟨_, ms, gs, j, _, _, ao, c, h, _⟩ | ⟨_, ms, y, k, hc, hq, h⟩
  all_goals exact ⟨_, _, _, _, _, h⟩
theorem paV_keep {l : List UInt8} {lt lf la ln : Int} {f B B' : Nat} {e : Ending} {w w' : World} (h : paV l lt lf la ln f B e w) (hB : B' ≤ B) (hs : w.heap.size ≤ w'.heap.size) (hk : ∀ b, B ≤ b → b < w.heap.size → w'.heap[b]? = w.heap[b]?) : paV l lt lf la ln f B' e w' := by
  unfold paV at *
  by_cases hc : cT lt < l.length
  · rw [if_pos hc] at *
    exact h
  · rw [if_neg hc] at *
    cases hcu : cut rdN l 0 with
    | bad k => rw [hcu] at h; exact h
    | ok ms =>
      rw [hcu] at h
      dsimp only at *
      cases hp : progL (mf ms) ⟨max lf 0, max la 0, max ln 0⟩ f [] 0 with
      | out => trivial
      | bad y k => rw [hp] at h; exact h
      | ok gs j =>
        rw [hp] at h
        obtain ⟨ao, c, e1, hfl, hle⟩ := h
        exact ⟨ao, c, e1, (hfl.keep hs hk).imp fun b hb _ => Nat.le_trans hB hb, hle⟩
/-- A program and a fault lie in two new blocks: what Parse answered. -/
def PF2 (W0 : World) (l : List UInt8) (lt lf la ln : Int) (F : Nat) (p q : Value) (wx : World) : Prop :=
  ∃ (gp gf : Nat) (ao1 : Option Addr) (n1 cc1 : Nat) (y1 a1 : Int), p = .pointer (some ⟨gp, 0, none⟩) ∧ q = .pointer (some ⟨gf, 0, none⟩) ∧ W0.heap.size ≤ gp ∧ W0.heap.size ≤ gf ∧ Bk wx gp 29 [.slice ao1 n1 cc1] ∧ Bk wx gf 32 [.int .i64 y1, .int .i64 a1] ∧ Below W0.heap.size W0 wx ∧ paV l lt lf la ln F W0.heap.size (.returned (.tuple #[.agg #[.slice ao1 n1 cc1], .agg #[.int .i64 y1, .int .i64 a1]])) wx

section
variable {W0 wp : World} {l : List UInt8} {lt lf la ln : Int} {F B gp gf : Nat} {ao1 : Option Addr} {n1 cc1 : Nat} {y1 a1 : Int} (hpp : paV l lt lf la ln F B (.returned (.tuple #[.agg #[.slice ao1 n1 cc1], .agg #[.int .i64 y1, .int .i64 a1]])) wp) (hB : Below W0.heap.size W0 wp) (h1 : W0.heap.size ≤ B)
include hpp hB h1
theorem rel5 (hp : gp < B) (hf : gf < B) (hgp : W0.heap.size ≤ gp) (hgf : W0.heap.size ≤ gf) (Pp : Bk wp gp 29 [.slice none 0 0]) (Fp : Bk wp gf 32 [.int .i64 0, .int .i64 0]) (hne : gp ≠ gf) :
    PF2 W0 l lt lf la ln F (.pointer (some ⟨gp, 0, none⟩)) (.pointer (some ⟨gf, 0, none⟩)) (((wp.setCell ⟨gp, 0, none⟩ (.slice ao1 n1 cc1)).setCell ⟨gf, 0, none⟩ (.int .i64 y1)).setCell ⟨gf, 1, none⟩ (.int .i64 a1)) := by
  have o1 := (Oth.refl gp wp).set 0 (.slice ao1 n1 cc1)
  have o2 := ((Oth.refl gf (wp.setCell ⟨gp, 0, none⟩ (.slice ao1 n1 cc1))).set 0 (.int .i64 y1)).set 1 (.int .i64 a1)
  refine ⟨gp, gf, ao1, n1, cc1, y1, a1, rfl, rfl, hgp, hgf, (Pp.set 0 _).oth o2 hne, ((Fp.oth o1 (Ne.symm hne)).set 0 _).set 1 _, bst (bst (bst hB hgp) hgf) hgf, paV_keep hpp h1 (by rw [o2.size, o1.size]; exact Nat.le_refl _) fun b hb _ => by rw [o2.block b (by omega), o1.block b (by omega)]⟩
theorem rel3 (hp : gp < B) (hgp : W0.heap.size ≤ gp) (Pp : Bk wp gp 29 [.slice none 0 0]) :
    PF2 W0 l lt lf la ln F (.pointer (some ⟨gp, 0, none⟩)) (.pointer (some ⟨wp.heap.size, 0, none⟩)) ((((wp.alloc (.cells #[.int .i64 0, .int .i64 0] 32)).setCell ⟨gp, 0, none⟩ (.slice ao1 n1 cc1)).setCell ⟨wp.heap.size, 0, none⟩ (.int .i64 y1)).setCell ⟨wp.heap.size, 1, none⟩ (.int .i64 a1)) := by
  have hb := below_alloc wp (.cells #[.int .i64 0, .int .i64 0] 32)
  have hl := Pp.lt
  have o1 := (Oth.refl gp (wp.alloc (.cells #[.int .i64 0, .int .i64 0] 32))).set 0 (.slice ao1 n1 cc1)
  have o2 := ((Oth.refl wp.heap.size ((wp.alloc (.cells #[.int .i64 0, .int .i64 0] 32)).setCell ⟨gp, 0, none⟩ (.slice ao1 n1 cc1))).set 0 (.int .i64 y1)).set 1 (.int .i64 a1)
  have hw := hB.size
  refine ⟨gp, wp.heap.size, ao1, n1, cc1, y1, a1, rfl, rfl, hgp, hw, ((Pp.up hb).set 0 _).oth o2 (by omega), (((Bk.new wp 32 #[.int .i64 0, .int .i64 0]).oth o1 (by omega)).set 0 _).set 1 _, bst (bst (bst (bal hB) hgp) hw) hw, paV_keep hpp h1 (by rw [o2.size, o1.size]; exact hb.size) fun b hbb hl => by rw [o2.block b (by omega), o1.block b (by omega), hb.block b hl]⟩
theorem rel4 (hf : gf < B) (hgf : W0.heap.size ≤ gf) (Fp : Bk wp gf 32 [.int .i64 0, .int .i64 0]) :
    PF2 W0 l lt lf la ln F (.pointer (some ⟨wp.heap.size, 0, none⟩)) (.pointer (some ⟨gf, 0, none⟩)) (((wp.alloc (.cells #[.slice ao1 n1 cc1] 29)).setCell ⟨gf, 0, none⟩ (.int .i64 y1)).setCell ⟨gf, 1, none⟩ (.int .i64 a1)) := by
  have hb := below_alloc wp (.cells #[.slice ao1 n1 cc1] 29)
  have hl := Fp.lt
  have o2 := ((Oth.refl gf (wp.alloc (.cells #[.slice ao1 n1 cc1] 29))).set 0 (.int .i64 y1)).set 1 (.int .i64 a1)
  have hw := hB.size
  refine ⟨wp.heap.size, gf, ao1, n1, cc1, y1, a1, rfl, rfl, hw, hgf, (Bk.new wp 29 #[.slice ao1 n1 cc1]).oth o2 (by omega), ((Fp.up hb).set 0 _).set 1 _, bst (bst (bal hB) hgf) hgf, paV_keep hpp h1 (by rw [o2.size]; exact hb.size) fun b hbb hl => by rw [o2.block b (by omega), hb.block b hl]⟩
theorem rel1 : PF2 W0 l lt lf la ln F (.pointer (some ⟨wp.heap.size, 0, none⟩)) (.pointer (some ⟨wp.heap.size + 1, 0, none⟩)) ((wp.alloc (.cells #[.slice ao1 n1 cc1] 29)).alloc (.cells #[.int .i64 y1, .int .i64 a1] 32)) := by
  have hb := below_two wp (.cells #[.slice ao1 n1 cc1] 29) (.cells #[.int .i64 y1, .int .i64 a1] 32)
  have hw := hB.size
  exact ⟨wp.heap.size, wp.heap.size + 1, ao1, n1, cc1, y1, a1, rfl, rfl, hw, by omega, (Bk.new wp 29 #[.slice ao1 n1 cc1]).up (below_alloc _ _), Bk.newAt 32 #[.int .i64 y1, .int .i64 a1] (by simp), bal (bal hB), paV_keep hpp h1 hb.size fun b _ hl => hb.block b hl⟩
theorem rel2 : PF2 W0 l lt lf la ln F (.pointer (some ⟨wp.heap.size + 1, 0, none⟩)) (.pointer (some ⟨wp.heap.size, 0, none⟩)) ((wp.alloc (.cells #[.int .i64 y1, .int .i64 a1] 32)).alloc (.cells #[.slice ao1 n1 cc1] 29)) := by
  have hb := below_two wp (.cells #[.int .i64 y1, .int .i64 a1] 32) (.cells #[.slice ao1 n1 cc1] 29)
  have hw := hB.size
  exact ⟨wp.heap.size + 1, wp.heap.size, ao1, n1, cc1, y1, a1, rfl, rfl, by omega, hw, Bk.newAt 29 #[.slice ao1 n1 cc1] (by simp), (Bk.new wp 32 #[.int .i64 y1, .int .i64 a1]).up (below_alloc _ _), bal (bal hB), paV_keep hpp h1 hb.size fun b _ hl => hb.block b hl⟩
end
end Go.Proofs.YtndgglhppoijnaaGreatDoor
