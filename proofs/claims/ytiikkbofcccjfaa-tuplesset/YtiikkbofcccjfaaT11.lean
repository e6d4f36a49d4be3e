/-
  Calls whose answers the document fixes.
-/
import Derived.Test.YtiikkbofcccjfaaT10
namespace Go.Proofs.Ytiikkbofcccjfaa
open Go.RowKit
open Go.Lib
open RowsM
set_option maxRecDepth 100000

theorem iz_made (w : World) (T : TypeId) (zs : List Int) : Iz (w.alloc (.cells (zs.map fun z => Value.int .i64 z).toArray T)) (some ⟨w.heap.size, 0, none⟩) zs := by
  intro _
  refine ⟨w.heap.size, 0, rfl, fun t ht => ?_⟩
  rw [cell_of_row _ _ _ _ _ _ (heap_alloc_new w _), List.getD_eq_getElem?_getD, List.getElem?_eq_getElem ht]
  simp [ht]
theorem own_cap0 {w : World} {B : Nat} {T : TypeId} {n m c : Nat} {ao : Option Addr} {xs : List Value} (h : w.ownsRow B T 1 (.slice ao n c) m xs) : ao = none → c = 0 := by
  rintro rfl
  rcases h.2 with ⟨h, _⟩ | ⟨g, c', cur, h, _⟩
  · cases h; rfl
  · cases h
theorem fresh_cap0 {w w' : World} {so : Option Addr} {cap : Nat} {L : List Nat} (h : Fresh w w' so cap L) : so = none → cap = 0 := by
  rintro rfl
  rcases h.2 with ⟨_, h, _⟩ | ⟨g, h, _⟩
  · exact h
  · cases h
theorem tab_tb {w w' : World} {B : Nat} {po so : Option Addr} {pc cap : Nat} {K : List Int} {X : List Nat} (hO : OwT w' B (.slice po K.length pc) K) (hf : Fresh w w' so cap X) (h1 : K.length ≤ 17592186043904) (h2 : X.length ≤ 17592186043904) : TbW w' K X po so pc cap := by
  obtain ⟨ao, c, e, hi, _, _⟩ := own_iz hO rfl
  simp only [Value.slice.injEq, true_and] at e
  obtain ⟨rfl, rfl⟩ := e
  exact ⟨hi, hf.rd, h1, h2, own_cap0 hO, fresh_cap0 hf⟩
theorem aw_e1 : numV [1, 3, 2] [1, 2, 0] = 12 := by decide
theorem aw_e2 : numE [1, 3, 2] [1, 2, 0] = 0 := by decide
theorem aw_n1 : newK [3] 1 = [3] := by decide
theorem aw_n2 : newT [3] 1 = 1 := by decide
theorem aw_n3 : newN [3] 1 = 4 := by decide
theorem aw_n4 : newE [3] 1 = 0 := by decide
theorem aw_n5 : newX [3] 1 = [0] := by decide
theorem aw_m1 : setK [3] 1 4 [0] [3] 1 = [3] := by decide
theorem aw_m2 : setT [3] 1 4 [0] [3] 1 = 1 := by decide
theorem aw_m3 : setN [3] 1 4 [0] [3] 1 = 4 := by decide
theorem aw_m4 : setE [3] 1 4 [0] [3] 1 = 0 := by decide
theorem aw_m5 : setX [3] 1 4 [0] [3] 1 = [64] := by decide
theorem aw_a1 : atV [3] 1 4 [64] [3] = 1 := by decide
theorem aw_a2 : fndE [3] 1 4 [64] [3] = 0 := by decide
theorem aw_r1 : rsV [3] 1 4 [64] = true := by decide
theorem aw_r2 : rsE [3] 1 4 [64] = 0 := by decide
theorem aw_k1 : cntV [1, 3, 2] = 16 := by decide
theorem aw_k2 : cntE [1, 3, 2] = 0 := by decide
theorem aw_j1 : tupE [1, 3, 2] 13 = 0 := by decide
theorem aw_j2 : tupV [1, 3, 2] 13 = [1, 2, 1] := by decide
theorem aw_o1 : okTab [3] 1 4 [64] = true := by decide

set_option maxHeartbeats 4000000 in
theorem awake16_any (w : World) : Calls Try.prog 9 #[] w fun e w' => e = .returned (.bool true) ∧ Below w.heap.size w w' := by
  have b0 := (below_alloc w (.cells #[.int .i64 1, .int .i64 3, .int .i64 2] 38)).trans ((below_alloc (w.alloc (.cells #[.int .i64 1, .int .i64 3, .int .i64 2] 38)) (.cells #[.int .i64 1, .int .i64 2, .int .i64 0] 54)).mono (by simp))
  have i1 : Iz ((w.alloc (.cells #[.int .i64 1, .int .i64 3, .int .i64 2] 38)).alloc (.cells #[.int .i64 1, .int .i64 2, .int .i64 0] 54)) (some ⟨w.heap.size, 0, none⟩) [1, 3, 2] := (iz_made w _ [1, 3, 2]).up (below_alloc _ _)
  have i2 : Iz ((w.alloc (.cells #[.int .i64 1, .int .i64 3, .int .i64 2] 38)).alloc (.cells #[.int .i64 1, .int .i64 2, .int .i64 0] 54)) (some ⟨w.heap.size + 1, 0, none⟩) [1, 2, 0] := by
    have := iz_made (w.alloc (.cells #[.int .i64 1, .int .i64 3, .int .i64 2] 38)) 54 [1, 2, 0]
    rw [show (w.alloc (.cells #[.int .i64 1, .int .i64 3, .int .i64 2] 38)).heap.size = w.heap.size + 1 by simp] at this
    exact this
  have c1 : Calls Try.prog 12 #[.slice (some ⟨w.heap.size, 0, none⟩) 3 3, .slice (some ⟨w.heap.size + 1, 0, none⟩) 3 3] ((w.alloc (.cells #[.int .i64 1, .int .i64 3, .int .i64 2] 38)).alloc (.cells #[.int .i64 1, .int .i64 2, .int .i64 0] 54)) fun e w' => e = .returned (.tuple #[.int .i64 12, .int .i64 0]) ∧ Below ((w.alloc (.cells #[.int .i64 1, .int .i64 3, .int .i64 2] 38)).alloc (.cells #[.int .i64 1, .int .i64 2, .int .i64 0] 54)).heap.size ((w.alloc (.cells #[.int .i64 1, .int .i64 3, .int .i64 2] 38)).alloc (.cells #[.int .i64 1, .int .i64 2, .int .i64 0] 54)) w' := by
    have := number16_any [1, 3, 2] [1, 2, 0] _ _ 3 3 _ i1 i2 (by decide) (by decide)
    rw [aw_e1, aw_e2] at this
    exact this
  go_enter Try.func9, Try.ntmps9
  go_wp2_with fail
  refine c1.mono ?_
  rintro e w1 ⟨rfl, hb⟩
  replace i1 := i1.up hb
  replace b0 := Below.thn b0 hb
  clear c1 i2 hb
  have hb := below_alloc w1 (.cells #[.int .i64 3] 38)
  replace i1 := i1.up hb
  replace b0 := Below.thn b0 hb
  have i3 : Iz (w1.alloc (.cells #[.int .i64 3] 38)) (some ⟨w1.heap.size, 0, none⟩) [3] := iz_made w1 _ [3]
  have c2 := new16_any [3] 1 _ 1 _ i3 (by decide) (by intro h; cases h)
  rw [aw_n1, aw_n2, aw_n3, aw_n4, aw_n5] at c2
  go_wp2_with fail
  refine c2.mono ?_
  rintro e w2 ⟨po, pc, so, cap, rfl, hO, hf, hb⟩
  have T2 := tab_tb hO hf (by decide) (by decide)
  replace i1 := i1.up hb
  replace b0 := Below.thn b0 hb
  clear c2 i3 hO hf hb
  -- the first table's block, the tuple's
  have hb := (below_alloc w2 (.cells #[.slice po 1 pc, .int .i64 1, .int .i64 4, .slice so 1 cap] 43)).trans ((below_alloc (w2.alloc (.cells #[.slice po 1 pc, .int .i64 1, .int .i64 4, .slice so 1 cap] 43)) (.cells #[.int .i64 3] 54)).mono (by simp))
  have s2 := (S4.new w2 (.slice po 1 pc) (.int .i64 1) (.int .i64 4) (.slice so 1 cap)).alloc (.cells #[.int .i64 3] 54)
  replace i1 := i1.up hb
  replace b0 := Below.thn b0 hb
  replace T2 := T2.up hb
  have i4 : Iz ((w2.alloc (.cells #[.slice po 1 pc, .int .i64 1, .int .i64 4, .slice so 1 cap] 43)).alloc (.cells #[.int .i64 3] 54)) (some ⟨w2.heap.size + 1, 0, none⟩) [3] := by
    have := iz_made (w2.alloc (.cells #[.slice po 1 pc, .int .i64 1, .int .i64 4, .slice so 1 cap] 43)) 54 [3]
    rw [show (w2.alloc (.cells #[.slice po 1 pc, .int .i64 1, .int .i64 4, .slice so 1 cap] 43)).heap.size = w2.heap.size + 1 by simp] at this
    exact this
  have c3 := tset_any [3] 1 4 [0] po so pc cap _ T2 [3] _ 1 i4 (by decide) 1 T2.c1
  rw [aw_m1, aw_m2, aw_m3, aw_m4, aw_m5] at c3
  obtain ⟨p0, p1, p2, p3⟩ := (S4.new w2 (.slice po 1 pc) (.int .i64 1) (.int .i64 4) (.slice so 1 cap)).cells
  go_wp2_with fail
  refine c3.mono ?_
  rintro e w3 ⟨qo, qc, ro, rc, rfl, hO, hf, hb⟩
  have T3 := tab_tb hO hf (by decide) (by decide)
  replace i1 := i1.up hb
  replace b0 := Below.thn b0 hb
  clear c3 i4 hO hf hb p0 p1 p2 p3 T2 s2
  have hb := (below_alloc w3 (.cells #[.slice qo 1 qc, .int .i64 1, .int .i64 4, .slice ro 1 rc] 43)).trans ((below_alloc (w3.alloc (.cells #[.slice qo 1 qc, .int .i64 1, .int .i64 4, .slice ro 1 rc] 43)) (.cells #[.int .i64 3] 54)).mono (by simp))
  have s3 := (S4.new w3 (.slice qo 1 qc) (.int .i64 1) (.int .i64 4) (.slice ro 1 rc)).alloc (.cells #[.int .i64 3] 54)
  replace i1 := i1.up hb
  replace b0 := Below.thn b0 hb
  replace T3 := T3.up hb
  have i4 : Iz ((w3.alloc (.cells #[.slice qo 1 qc, .int .i64 1, .int .i64 4, .slice ro 1 rc] 43)).alloc (.cells #[.int .i64 3] 54)) (some ⟨w3.heap.size + 1, 0, none⟩) [3] := by
    have := iz_made (w3.alloc (.cells #[.slice qo 1 qc, .int .i64 1, .int .i64 4, .slice ro 1 rc] 43)) 54 [3]
    rw [show (w3.alloc (.cells #[.slice qo 1 qc, .int .i64 1, .int .i64 4, .slice ro 1 rc] 43)).heap.size = w3.heap.size + 1 by simp] at this
    exact this
  have c4 := at_any [3] 1 4 [64] qo ro qc rc _ T3 [3] _ 1 i4 (by decide)
  rw [aw_a1, aw_a2] at c4
  obtain ⟨p0, p1, p2, p3⟩ := (S4.new w3 (.slice qo 1 qc) (.int .i64 1) (.int .i64 4) (.slice ro 1 rc)).cells
  go_wp2_with fail
  refine c4.mono ?_
  rintro e w4 ⟨rfl, hb⟩
  clear c4 i4 p0 p1 p2 p3
  replace i1 := i1.up hb
  replace b0 := Below.thn b0 hb
  replace T3 := T3.up hb
  replace s3 := s3.up hb
  clear hb
  obtain ⟨p0, p1, p2, p3⟩ := s3.cells
  have c5 := rises_any [3] 1 4 [64] qo ro qc rc _ T3
  rw [aw_r1, aw_r2] at c5
  go_wp2_with fail
  refine c5.mono ?_
  rintro e w5 ⟨rfl, hb⟩
  clear c5 p0 p1 p2 p3
  replace i1 := i1.up hb
  replace b0 := Below.thn b0 hb
  replace T3 := T3.up hb
  replace s3 := s3.up hb
  clear hb
  have c6 := count16_any [1, 3, 2] _ 3 _ i1 (by decide)
  rw [aw_k1, aw_k2] at c6
  go_wp2_with fail
  refine c6.mono ?_
  rintro e w6 ⟨rfl, hb⟩
  clear c6
  replace i1 := i1.up hb
  replace b0 := Below.thn b0 hb
  replace T3 := T3.up hb
  replace s3 := s3.up hb
  clear hb
  have c7 := tuple_any [1, 3, 2] 13 _ 3 _ i1 (by decide)
  unfold TupEnd at c7
  rw [aw_j1, aw_j2] at c7
  go_wp2_with fail
  refine c7.mono ?_
  rintro e w7 ⟨v, rfl, hO, hb⟩
  obtain ⟨xo, xc, rfl, hx, _, _⟩ := own_iz hO rfl
  clear c7 hO
  replace b0 := Below.thn b0 hb
  replace T3 := T3.up hb
  replace s3 := s3.up hb
  clear hb i1
  have hb := below_alloc w7 (.cells #[.int .i64 1, .int .i64 2, .int .i64 1] 54)
  replace hx := hx.up hb
  replace b0 := Below.thn b0 hb
  replace T3 := T3.up hb
  replace s3 := s3.up hb
  have i5 : Iz (w7.alloc (.cells #[.int .i64 1, .int .i64 2, .int .i64 1] 54)) (some ⟨w7.heap.size, 0, none⟩) [1, 2, 1] := iz_made w7 _ [1, 2, 1]
  have c8 := same16_any [1, 2, 1] [1, 2, 1] xo _ xc 3 _ hx i5 (by decide) (by decide)
  rw [show decide (([1, 2, 1] : List Int) = [1, 2, 1]) = true by decide] at c8
  clear hb
  go_wp2_with fail
  refine c8.mono ?_
  rintro e w8 ⟨rfl, hb⟩
  clear c8 i5 hx
  replace b0 := Below.thn b0 hb
  replace T3 := T3.up hb
  replace s3 := s3.up hb
  clear hb
  obtain ⟨p0, p1, p2, p3⟩ := s3.cells
  have c9 := tcheck_any [3] 1 4 [64] qo ro qc rc _ T3
  rw [aw_o1] at c9
  go_wp2_with fail
  refine c9.mono ?_
  rintro e w9 ⟨rfl, hb⟩
  clear c9 p0 p1 p2 p3 s3 T3
  replace b0 := Below.thn b0 hb
  clear hb
  go_wp2
  go_ret
  exact ⟨rfl, b0⟩
end Go.Proofs.Ytiikkbofcccjfaa
