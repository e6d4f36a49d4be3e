/-
  3 texts in one: what each proves stands at its head.
-/
import Derived.Test.YtndgglhppoijnaaGreatDoorUA
import Derived.Test.YtndgglhppoijnaaGreatDoorUB
import Derived.WalkMore
import Derived.Test.YtndgglhppoijnaaGreatDoorUE
import Derived.Deep.MidRow
/-
  The walks of the small functions over bytes: blanks, letters, digits, runs: of marks and of the document's answer.
-/
namespace Go.Proofs.YtndgglhppoijnaaGreatDoor
open Go.RowKit
set_option maxRecDepth 100000

theorem isBl_eq (c : UInt8) : isBl c = decide (c.toNat = 9 ∨ c.toNat = 10 ∨ c.toNat = 13 ∨ c.toNat = 32) := by
  rw [Bool.eq_iff_iff]; simp [isBl, ← UInt8.toNat_inj, or_assoc]
theorem isLt_eq (c : UInt8) : isLt c = decide ((65 ≤ c.toNat ∧ c.toNat ≤ 90) ∨ (97 ≤ c.toNat ∧ c.toNat ≤ 122)) := by
  rw [Bool.eq_iff_iff]; simp [isLt, UInt8.le_iff_toNat_le]
theorem isDg_eq (c : UInt8) : isDg c = decide (48 ≤ c.toNat ∧ c.toNat ≤ 57) := by
  rw [Bool.eq_iff_iff]; simp [isDg, UInt8.le_iff_toNat_le]
theorem inRn_eq (c : UInt8) : inRn c = decide (((65 ≤ c.toNat ∧ c.toNat ≤ 90) ∨ (97 ≤ c.toNat ∧ c.toNat ≤ 122)) ∨ (48 ≤ c.toNat ∧ c.toNat ≤ 57) ∨ c.toNat = 95) := by
  rw [Bool.eq_iff_iff]; simp [inRn, isLt_eq, isDg_eq, ← UInt8.toNat_inj, or_assoc]

set_option maxHeartbeats 400000 in
theorem isBlank_any (c : UInt8) (w : World) :
    Calls Tryz.prog 28 #[.int .u8 c.toNat] w fun e w' => e = .returned (.bool (isBl c)) ∧ w' = w := by
  rw [isBl_eq]
  generalize c.toNat = n
  go_enter Tryz.func28, Tryz.ntmps28
  go_wp2
  all_goals go_ret
  all_goals exact ⟨ret_bool (by rw [Bool.eq_iff_iff]; simp; omega), rfl⟩

set_option maxHeartbeats 400000 in
theorem refBlank_any (c : UInt8) (w : World) :
    Calls Tryz.prog 34 #[.int .u8 c.toNat] w fun e w' => e = .returned (.bool (isBl c)) ∧ w' = w := by
  rw [isBl_eq]
  generalize c.toNat = n
  go_enter Tryz.func34, Tryz.ntmps34
  go_wp2
  all_goals go_ret
  all_goals exact ⟨ret_bool (by rw [Bool.eq_iff_iff]; simp; omega), rfl⟩

set_option maxHeartbeats 400000 in
theorem isDigit_any (c : UInt8) (w : World) :
    Calls Tryz.prog 44 #[.int .u8 c.toNat] w fun e w' => e = .returned (.bool (isDg c)) ∧ w' = w := by
  rw [isDg_eq]
  generalize c.toNat = n
  go_enter Tryz.func44, Tryz.ntmps44
  go_wp2
  all_goals go_ret
  all_goals exact ⟨ret_bool (by rw [Bool.eq_iff_iff]; simp; omega), rfl⟩

set_option maxHeartbeats 400000 in
theorem isLetter_any (c : UInt8) (w : World) :
    Calls Tryz.prog 43 #[.int .u8 c.toNat] w fun e w' => e = .returned (.bool (isLt c)) ∧ w' = w := by
  rw [isLt_eq]
  generalize c.toNat = n
  go_enter Tryz.func43, Tryz.ntmps43
  go_wp2
  all_goals go_ret
  all_goals exact ⟨ret_bool (by rw [Bool.eq_iff_iff]; simp; omega), rfl⟩
end Go.Proofs.YtndgglhppoijnaaGreatDoor
/-
  The walks of inRun; the document's letters, digits; a text of bytes in memory.
-/
namespace Go.Proofs.YtndgglhppoijnaaGreatDoor
open Go.RowKit
set_option maxRecDepth 100000

set_option maxHeartbeats 400000 in
theorem refdigit_any (c : UInt8) (w : World) :
    Calls Tryz.prog 53 #[.int .u8 c.toNat] w fun e w' => e = .returned (.bool (isDg c)) ∧ w' = w := by
  rw [isDg_eq]
  generalize c.toNat = n
  go_enter Tryz.func53, Tryz.ntmps53
  go_wp2
  all_goals go_ret
  all_goals exact ⟨ret_bool (by rw [Bool.eq_iff_iff]; simp; omega), rfl⟩

set_option maxHeartbeats 400000 in
theorem refletter_any (c : UInt8) (w : World) :
    Calls Tryz.prog 79 #[.int .u8 c.toNat] w fun e w' => e = .returned (.bool (isLt c)) ∧ w' = w := by
  rw [isLt_eq]
  generalize c.toNat = n
  go_enter Tryz.func79, Tryz.ntmps79
  go_wp2
  all_goals go_ret
  all_goals exact ⟨ret_bool (by rw [Bool.eq_iff_iff]; simp; omega), rfl⟩

set_option maxHeartbeats 400000 in
theorem inRun_any (c : UInt8) (w : World) :
    Calls Tryz.prog 29 #[.int .u8 c.toNat] w fun e w' => e = .returned (.bool (inRn c)) ∧ w' = w := by
  have h1 := isLetter_any c w
  have h2 := isDigit_any c w
  unfold inRn
  have h3 : (c == 95) = ((c.toNat : Int) == 95) := by rw [Bool.eq_iff_iff]; simp [← UInt8.toNat_inj]; omega
  rw [h3]
  clear h3
  generalize c.toNat = n at *
  generalize isLt c = x at *
  generalize isDg c = y at *
  go_enter Tryz.func29, Tryz.ntmps29
  cases x <;> cases y
  all_goals
    go_wp2_with (first
      | (go_at_call 43; refine h1.mono ?_; rintro e w' ⟨rfl, rfl⟩)
      | (go_at_call 44; refine h2.mono ?_; rintro e w' ⟨rfl, rfl⟩))
  all_goals go_ret
  all_goals exact ⟨ret_bool (by simp), rfl⟩

/-- What a slice of bytes reads: the bytes, and where they lie. -/
structure Bd (w : World) (ao : Option Addr) (l : List UInt8) : Prop where
  pl : l ≠ [] → ∃ b off, ao = some ⟨b, off, none⟩ ∧ ∀ t, t < l.length → w.cell? ⟨b, off + t, none⟩ = some (.int .u8 ((l.getD t 0).toNat : Int))

theorem Bd.nil (w : World) (ao : Option Addr) : Bd w ao [] := ⟨fun h => absurd rfl h⟩

theorem cell_lt {w : World} {b o : Nat} {v : Value} (h : w.cell? ⟨b, o, none⟩ = some v) : b < w.heap.size := by
  simp only [World.cell?] at h
  rcases Nat.lt_or_ge b w.heap.size with k | k
  · exact k
  · exfalso
    rw [Array.getElem?_eq_none k] at h
    simp at h

theorem Bd.up {w w' : World} {ao : Option Addr} {l : List UInt8} (h : Bd w ao l) (hb : Below w.heap.size w w') : Bd w' ao l := by
  refine ⟨fun hn => ?_⟩
  obtain ⟨b, off, e, hc⟩ := h.pl hn
  refine ⟨b, off, e, fun t ht => ?_⟩
  have h1 := hc t ht
  rw [← h1]
  exact hb.cell (cell_lt h1)

theorem Bd.to {w w' : World} {ao : Option Addr} {l : List UInt8} {B : Nat} (h : Bd w ao l) (hl : l ≠ [] → ∀ b off, ao = some ⟨b, off, none⟩ → b < B) (hb : Below B w w') : Bd w' ao l := by
  refine ⟨fun hn => ?_⟩
  obtain ⟨b, off, e, hc⟩ := h.pl hn
  refine ⟨b, off, e, fun t ht => ?_⟩
  rw [← hc t ht]
  exact hb.cell (hl hn b off e)

theorem Bd.low {w : World} {ao : Option Addr} {l : List UInt8} (h : Bd w ao l) : l ≠ [] → ∀ b off, ao = some ⟨b, off, none⟩ → b < w.heap.size := by
  intro hn b off e
  obtain ⟨b', off', e', hc⟩ := h.pl hn
  rw [e] at e'
  simp only [Option.some.injEq, Addr.mk.injEq, and_true] at e'
  obtain ⟨rfl, rfl⟩ := e'
  exact cell_lt (hc 0 (List.length_pos_iff.2 hn))
end Go.Proofs.YtndgglhppoijnaaGreatDoor
/-
  The tables of marks in memory; the walk of Reserved.
-/
namespace Go.Proofs.YtndgglhppoijnaaGreatDoor
open Go.RowKit
set_option maxRecDepth 100000

/-- The signs, the longer ones ahead. -/
def signsT : List (List UInt8) := [[45, 62], [61, 61], [40], [41], [44], [58], [59], [61], [43], [45], [42], [47], [60], [124]]

/-- The two tables lie in memory. -/
structure Gl (w : World) : Prop where
  wd : ∀ i, i < 19 → w.cell? ⟨1, i, none⟩ = some (.string (bs (wordsL.getD i [])))
  sg : ∀ i, i < 14 → w.cell? ⟨0, i, none⟩ = some (.string (bs (signsT.getD i [])))

theorem Gl.up {w w' : World} (h : Gl w) (hb : Below w.heap.size w w') : Gl w' :=
  ⟨fun i hi => keep hb (h.wd i hi), fun i hi => keep hb (h.sg i hi)⟩

/-- An array by value, read at a place within it. -/
theorem run_index_agg {P : Program} {w : World} (t e : TypeId) (n : Nat) (cs : Array Value) (i : Nat) (v : Value) (h : P.underlying t = some (.array n e)) (hi : i < n) (hs : (sizeOf e).run P w = .ok 1 w) (ha : (isAgg e).run P w = .ok false w) (hv : cs[i]? = some v) :
    (Instr.index t (.agg cs) (.int .i64 i)).run P w = .ok v w := by
  have hn : (0 ≤ (i:Int) ∧ (i:Int) < (n : Int)) := by omega
  simp [Instr.index, run_underlying h, asIntOf, hn, hi, hs, ha, hv, go_sem]

theorem size_str (w : World) : (sizeOf 9).run Tryz.prog w = .ok 1 w := by
  have : (Tryz.prog.info? 9).map (·.size) = some 1 := by kernel_rfl
  cases hq : Tryz.prog.info? 9 with
  | none => simp [hq] at this
  | some i => rw [hq] at this; simp at this; simp [sizeOf, typeInfo, hq, this]
theorem agg_str (w : World) : (isAgg 9).run Tryz.prog w = .ok false w := by
  unfold isAgg
  rw [Sem.run_bind, run_underlying (show Tryz.prog.underlying 9 = some .string by kernel_rfl) w]
  rfl

def strV (l : List UInt8) : Value := .string (bs l)

theorem Gl.wdR {w : World} (h : Gl w) : w.rangeAt 1 0 (wordsL.map strV) := by
  intro j v hj
  rw [List.getElem?_map] at hj
  cases hw : wordsL[j]? with
  | none => rw [hw] at hj; cases hj
  | some x =>
    rw [hw] at hj
    simp only [Option.map_some, Option.some.injEq] at hj
    subst hj
    have hl : j < 19 := (List.getElem?_eq_some_iff.1 hw).1
    rw [Nat.zero_add, h.wd j hl, List.getD_eq_getElem?_getD, hw]
    rfl

theorem Gl.sgR {w : World} (h : Gl w) : w.rangeAt 0 0 (signsT.map strV) := by
  intro j v hj
  rw [List.getElem?_map] at hj
  cases hw : signsT[j]? with
  | none => rw [hw] at hj; cases hj
  | some x =>
    rw [hw] at hj
    simp only [Option.map_some, Option.some.injEq] at hj
    subst hj
    have hl : j < 14 := (List.getElem?_eq_some_iff.1 hw).1
    rw [Nat.zero_add, h.sg j hl, List.getD_eq_getElem?_getD, hw]
    rfl

theorem Tryz.arrW : Tryz.prog.underlying 119 = some (.array 19 9) := by kernel_rfl
theorem Tryz.arrWs : (Tryz.prog.info? 119).map (·.size) = some 19 := by kernel_rfl
theorem Tryz.arrS : Tryz.prog.underlying 104 = some (.array 14 9) := by kernel_rfl
theorem Tryz.arrSs : (Tryz.prog.info? 104).map (·.size) = some 14 := by kernel_rfl

set_option maxHeartbeats 1000000 in
theorem reserved_any (l : List UInt8) (w : World) (hG : Gl w) :
    Calls Tryz.prog 45 #[.string (bs l)] w fun e w' => e = .returned (.bool (isWd l)) ∧ w' = w := by
  have hR := hG.wdR
  clear hG
  go_enter Tryz.func45, Tryz.ntmps45
  go_wp2_with (refine wpList_load_mid rfl 119 (.global 1) rfl 1 0 rfl (wordsL.map strV) _ hR Tryz.arrW rfl Tryz.arrWs ?_)
  have hA : ∀ k : Nat, k < 19 → (List.map strV wordsL).toArray[k]? = some (.string (bs (wordsL.getD k []))) := by
    intro k hk
    have hk' : k < wordsL.length := hk
    simp [List.getD_eq_getElem?_getD, hk', strV]
  generalize (List.map strV wordsL).toArray = A at *
  clear hR
  have HF : Hid (isWd l = false ↔ ∀ j, j < 19 → wordsL.getD j [] ≠ l) := by
    show _ ↔ _
    rw [← Bool.not_eq_true, isWd, List.contains_iff_mem]
    constructor
    · intro h j hj e
      apply h
      have hj' : j < wordsL.length := hj
      rw [← e, List.getD_eq_getElem?_getD, List.getElem?_eq_getElem hj']
      exact List.getElem_mem hj'
    · intro h hm
      obtain ⟨j, hj, e⟩ := List.mem_iff_getElem.1 hm
      refine h j hj ?_
      rw [List.getD_eq_getElem?_getD, List.getElem?_eq_getElem hj]
      exact e
  go_loop [6] (fun i => ∃ k : Nat, k ≤ 19 ∧ i = .int .i64 k ∧ Hid (∀ j, j < k → wordsL.getD j [] ≠ l)) (fun i => 19 - (intOf i).toNat)
  case atStart => exact ⟨0, Nat.zero_le _, rfl, fun j hj => absurd hj (by omega)⟩
  case round =>
    obtain ⟨k, hk, rfl, hall⟩ := hrel
    by_cases hlt : k < 19
    · obtain ⟨x, hx⟩ : ∃ x, x = wordsL.getD k [] := ⟨_, rfl⟩
      have ha := hA k hlt
      rw [← hx] at ha
      have HX : Hid (x = wordsL.getD k []) := hx
      have hI := run_index_agg (P := Tryz.prog) (w := w) 119 9 19 A k _ Tryz.arrW hlt (size_str w) (agg_str w) ha
      clear hx hA ha
      by_cases he : x = l
      · subst he
        have h1 : ((bs x).toList == (bs x).toList) = true := by simp
        go_wp2
        go_ret
        refine ⟨ret_bool ?_, rfl⟩
        cases h : isWd x with
        | true => rfl
        | false => exact absurd (show x = _ from HX).symm ((show _ ↔ _ from HF).1 h k hlt)
      · have h1 : ((bs x).toList == (bs l).toList) = false := by rw [bs_toList, bs_toList, beq_eq_false_iff_ne]; exact he
        go_wp2
        go_round
        case rel =>
          refine ⟨k + 1, by omega, by go_num, fun j hj => ?_⟩
          rcases Nat.lt_or_ge j k with h | h
          · exact (show ∀ j, j < k → _ from hall) j h
          · have e : j = k := by omega
            rw [e, ← show x = _ from HX]
            exact he
        case measure => simp [intOf]; omega
    · have hke : k = 19 := by omega
      subst hke
      go_wp2
      go_ret
      exact ⟨ret_bool ((show _ ↔ _ from HF).2 hall).symm, rfl⟩
end Go.Proofs.YtndgglhppoijnaaGreatDoor
