/-
  Every tuple has its number: the walk of TuplesNumbers.
-/
import Derived.Test.YtiikkbofcccjfaaT12
namespace Go.Proofs.Ytiikkbofcccjfaa
open Go.RowKit
open Go.Lib
open RowsM
set_option maxRecDepth 100000

theorem tupV_len (ks : List Int) (n : Int) : (tupV ks n).length ≤ ks.length := by
  unfold tupV
  split
  · rw [tupL_len]; exact Nat.le_refl _
  · exact Nat.zero_le _

/-- A tuple's row, as it reads. -/
theorem tupEnd_iz {ks : List Int} {n : Int} {w w' : World} {e : Ending} (h : TupEnd ks n w e w') : ∃ ao c, e = .returned (.tuple #[.slice ao (tupV ks n).length c, .int .i64 (tupE ks n)]) ∧ Iz w' ao (tupV ks n) ∧ Below w.heap.size w w' := by
  obtain ⟨v, rfl, hO, hb⟩ := h
  obtain ⟨ao, c, rfl, hi, _, _⟩ := own_iz hO rfl
  exact ⟨ao, c, rfl, hi, hb⟩

set_option maxHeartbeats 4000000 in
theorem tuplesNumbers_any (ks ps : List Int) (i : Int) (ao bo : Option Addr) (ca cb : Nat) (w : World) (h : Iz w ao ks) (g : Iz w bo ps) (hl : ks.length ≤ 17592186043904) (gl : ps.length ≤ 17592186043904) :
    Calls Try.prog 3 #[.slice ao ks.length ca, .slice bo ps.length cb, .int .i64 i] w fun e w' => e = .returned (.bool true) ∧ Below w.heap.size w w' := by
  have B := Below.refl w.heap.size w
  have c1 := fun w h => count16_any ks ao ca w h hl
  have c2 := fun w h => rcount_any ks ao ca w h hl
  have c3 := fun w h g => number16_any ks ps ao bo ca cb w h g hl gl
  have c4 := fun w h g => rnumber_any ks ps ao bo ca cb w h g hl gl
  have c5 : ∀ w, Iz w ao ks → Calls Try.prog 14 #[.slice ao ks.length ca, .int .i64 i] w fun e w' => ∃ xo c, e = .returned (.tuple #[.slice xo (tupV ks i).length c, .int .i64 (tupE ks i)]) ∧ Iz w' xo (tupV ks i) ∧ Below w.heap.size w w' := fun w h => (tuple_any ks i ao ca w h hl).mono fun _ _ h => tupEnd_iz h
  have c6 : ∀ w, Iz w ao ks → Calls Try.prog 15 #[.slice ao ks.length ca, .int .i64 i] w fun e w' => ∃ xo c, e = .returned (.tuple #[.slice xo (tupV ks i).length c, .int .i64 (tupE ks i)]) ∧ Iz w' xo (tupV ks i) ∧ Below w.heap.size w w' := fun w h => (rtuple_any ks i ao ca w h hl).mono fun _ _ h => tupEnd_iz h
  have hxl : (tupV ks i).length ≤ 17592186043904 := Nat.le_trans (tupV_len ks i) hl
  generalize cntV ks = V1 at *
  generalize cntE ks = E1 at *
  generalize numV ks ps = V2 at *
  generalize numE ks ps = E2 at *
  generalize tupV ks i = X at *
  generalize tupE ks i = E3 at *
  have c7 := fun xo yo c d w h g => same16_any X X xo yo c d w h g hxl hxl
  rw [show decide (X = X) = true from decide_eq_true rfl] at c7
  go_enter Try.func3, Try.ntmps3
  go_wp2_with fail
  refine (awake16_any _).mono ?_
  rintro e w1 ⟨rfl, hb⟩
  replace h := h.up hb
  replace g := g.up hb
  replace B := Below.thn B hb
  clear hb 
  go_wp2_with fail
  refine (c1 _ h).mono ?_
  rintro e w2 ⟨rfl, hb⟩
  replace h := h.up hb
  replace g := g.up hb
  replace B := Below.thn B hb
  clear hb c1
  go_wp2_with fail
  refine (c2 _ h).mono ?_
  rintro e w3 ⟨rfl, hb⟩
  replace h := h.up hb
  replace g := g.up hb
  replace B := Below.thn B hb
  clear hb c2
  go_wp2_with fail
  refine (c3 _ h g).mono ?_
  rintro e w4 ⟨rfl, hb⟩
  replace h := h.up hb
  replace g := g.up hb
  replace B := Below.thn B hb
  clear hb c3
  go_wp2_with fail
  refine (c4 _ h g).mono ?_
  rintro e w5 ⟨rfl, hb⟩
  replace h := h.up hb
  replace B := Below.thn B hb
  clear hb c4 g
  go_wp2_with fail
  refine (c5 _ h).mono ?_
  rintro e w6 ⟨xo, cx, rfl, hx, hb⟩
  replace h := h.up hb
  replace B := Below.thn B hb
  clear hb c5
  go_wp2_with fail
  refine (c6 _ h).mono ?_
  rintro e w7 ⟨yo, cy, rfl, hy, hb⟩
  replace hx := hx.up hb
  replace B := Below.thn B hb
  clear hb c6 h
  go_wp2_with fail
  refine (c7 _ _ _ _ _ hx hy).mono ?_
  rintro e w8 ⟨rfl, hb⟩
  replace B := Below.thn B hb
  clear hb c7 hx hy
  go_wp2
  go_ret
  exact ⟨rfl, B⟩
end Go.Proofs.Ytiikkbofcccjfaa
