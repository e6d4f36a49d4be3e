/-
  2 texts in one: what each proves stands at its head.
-/
import Derived.Test.YtkbglnhdbnijlaaUM
import Derived.Deep.DeepCutAuto
import Derived.Deep.RegionHeld3
import Derived.Test.YtkbglnhdbnijlaaUO
/-
  The walk of LangFaults.
-/
namespace Go.Proofs.Ytkbglnhdbnijlaa
open Go.RowKit
set_option maxRecDepth 100000

/-- What Parse told: the definitions' slice, the fault. -/
theorem paV_cases {l : List UInt8} {lt lf la ln : Int} {f B : Nat} {e : Ending} {w' : World} (h : paV l lt lf la ln f B e w') (hf : ∀ ms, cut rdN l 0 = .ok ms → progL (mf ms) ⟨max lf 0, max la 0, max ln 0⟩ f [] 0 ≠ .out) :
    (cT lt < l.length ∧ e = .returned (noneV 22 (cT lt))) ∨ (l.length ≤ cT lt ∧ ∃ k, cut rdN l 0 = .bad k ∧ e = .returned (noneV 20 k)) ∨
    (l.length ≤ cT lt ∧ ∃ ms gs j, cut rdN l 0 = .ok ms ∧ progL (mf ms) ⟨max lf 0, max la 0, max ln 0⟩ f [] 0 = .ok gs j ∧ ∃ ao c, e = .returned (.tuple #[.agg #[.slice ao gs.length c], .agg #[.int .i64 0, .int .i64 0]]) ∧ FlW w' (fun b => B ≤ b) ao gs) ∨
    (l.length ≤ cT lt ∧ ∃ ms y k, cut rdN l 0 = .ok ms ∧ progL (mf ms) ⟨max lf 0, max la 0, max ln 0⟩ f [] 0 = .bad y k ∧ e = .returned (noneV y (mf ms k).at_)) := by
  unfold paV at h
  by_cases hb : cT lt < l.length
  · rw [if_pos hb] at h
    exact .inl ⟨hb, h⟩
  · rw [if_neg hb] at h
    refine .inr ?_
    have hle : (l.length : Int) ≤ cT lt := by omega
    cases hc : cut rdN l 0 with
    | bad k =>
      rw [hc] at h
      exact .inl ⟨hle, k, rfl, h⟩
    | ok ms =>
      rw [hc] at h
      dsimp only at h
      cases hq : progL (mf ms) ⟨max lf 0, max la 0, max ln 0⟩ f [] 0 with
      | out => exact absurd hq (hf ms hc)
      | ok gs j =>
        rw [hq] at h
        obtain ⟨ao, c, e1, hf1, _⟩ := h
        exact .inr (.inl ⟨hle, ms, gs, j, rfl, hq, ao, c, e1, hf1⟩)
      | bad y k =>
        rw [hq] at h
        exact .inr (.inr ⟨hle, ms, y, k, rfl, hq, h⟩)

theorem cT_max : cT 32768 = 32768 := by decide
theorem Bd.oth {g : Nat} {w w' : World} {ao : Option Addr} {l : List UInt8} (h : Bd w ao l) (ho : Oth g w w') (hn : ∀ b off, ao = some ⟨b, off, none⟩ → b ≠ g) : Bd w' ao l := by
  refine ⟨fun hne => ?_⟩
  obtain ⟨b, off, e, hc⟩ := h.pl hne
  exact ⟨b, off, e, fun t ht => (ho.cell (a := ⟨b, off + t, none⟩) (hn b off e)).trans (hc t ht)⟩

theorem Row1.le {k e : Nat} {ms : List Mk} (h : Row1 k e ms) {t : Nat} (ht : t < ms.length) : (mf ms t).at_ ≤ e := by
  have hpos := h.pos
  have hlast := h.last (t := ms.length - 1) (by omega)
  rcases Nat.lt_or_ge t (ms.length - 1) with hlt | hge
  · have hp := List.pairwise_iff_getElem.1 h.inc t (ms.length - 1) ht (by omega) hlt
    have e1 := mf_mem ht
    have e2 := mf_mem (ms := ms) (k := ms.length - 1) (by omega)
    rw [List.getElem?_eq_getElem ht, Option.some.injEq] at e1
    rw [List.getElem?_eq_getElem (by omega), Option.some.injEq] at e2
    rw [e1, e2, hlast] at hp
    simp only [endM] at hp
    omega
  · rw [show t = ms.length - 1 by omega, hlast]
    exact Nat.le_refl _

end Go.Proofs.Ytkbglnhdbnijlaa
/-
  The walk of LangWider.
-/
namespace Go.Proofs.Ytkbglnhdbnijlaa
open Go.RowKit
set_option maxRecDepth 100000

theorem FlW.but {w w' : World} {N R : Nat} {ao : Option Addr} {gs : List Fn1} (h : FlW w (fun b => b < N) ao gs) (hU : But R w w') (hR : N ≤ R) : FlW w' (fun b => b < N) ao gs := h.keep hU.size fun b hb hl => hU.block b hl (by omega)
theorem Bd.but {R : Nat} {w w' : World} {ao : Option Addr} {l : List UInt8} (h : Bd w ao l) (hU : But R w w') (hN : ∀ b off, ao = some ⟨b, off, none⟩ → b ≠ R) : Bd w' ao l := by
  refine ⟨fun hne => ?_⟩
  obtain ⟨b, off, e, hc⟩ := h.pl hne
  have h0 := cell_lt (hc 0 (by cases l with | nil => exact absurd rfl hne | cons => simp))
  exact ⟨b, off, e, fun t ht => (World.cell?_of_block (w := w) (a := ⟨b, off + t, none⟩) (hU.block b h0 (hN b off e))).trans (hc t ht)⟩

theorem Try.infoFt : (Try.prog.info? 31).map (·.size) = some 2 := by kernel_rfl
/-- What lies in memory while own limits are tried: they, and two faults. -/
structure Wv (w0 w : World) (O G H : Nat) (t f a n g h : Int) : Prop where
  o : Bk w O 57 [.int .i64 t, .int .i64 f, .int .i64 a, .int .i64 n]
  g : ∃ x : Int, Bk w G 31 [.int .i64 g, .int .i64 x]
  h : ∃ x : Int, Bk w H 31 [.int .i64 h, .int .i64 x]
  b : Below w0.heap.size w0 w

section
variable {w0 w w' : World} {O G H : Nat} {t f a n g h : Int}
theorem Wv.up (k : Wv w0 w O G H t f a n g h) (hb : Below w.heap.size w w') : Wv w0 w' O G H t f a n g h := by
  obtain ⟨x, hx⟩ := k.g
  obtain ⟨y, hy⟩ := k.h
  exact ⟨k.o.up hb, ⟨x, hx.up hb⟩, ⟨y, hy.up hb⟩, Below.thn k.b hb⟩
theorem Wv.set {j : Nat} {v : Value} (k : Wv w0 w O G H t f a n g h) (hG : G ≠ O) (hH : H ≠ O) (hO : w0.heap.size ≤ O) {t' f' a' n' : Int}
    (e : [Value.int .i64 t, .int .i64 f, .int .i64 a, .int .i64 n].set j v = [.int .i64 t', .int .i64 f', .int .i64 a', .int .i64 n']) : Wv w0 (w.setCell ⟨O, j, none⟩ v) O G H t' f' a' n' g h := by
  obtain ⟨x, hx⟩ := k.g
  obtain ⟨y, hy⟩ := k.h
  have ho := (Oth.refl O w).set j v
  refine ⟨?_, ⟨x, hx.oth ho hG⟩, ⟨y, hy.oth ho hH⟩, k.b.trans (ho.below hO)⟩
  have := k.o.set j v
  rwa [e] at this
end

end Go.Proofs.Ytkbglnhdbnijlaa
