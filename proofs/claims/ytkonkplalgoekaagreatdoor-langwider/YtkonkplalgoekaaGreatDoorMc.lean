/-
  The tables of marks in memory; the walk of Reserved.
-/
import Derived.Test.YtkonkplalgoekaaGreatDoorMb
import Derived.Test.YtkonkplalgoekaaGreatDoorPn
import Derived.Deep.MidRow
namespace Go.Proofs.YtkonkplalgoekaaGreatDoor
open Go.RowKit
set_option maxRecDepth 100000

/-- The signs, the longer ones ahead. -/
def signsT : List (List UInt8) := [[45, 62], [61, 61], [40], [41], [44], [58], [59], [61], [43], [45], [42], [47], [60], [124]]

/-- The two tables lie in memory. -/
structure Gl (w : World) : Prop where
  wd : ∀ i, i < 19 → w.cell? ⟨1, i, none⟩ = some (.string (bs (wordsL.getD i [])))
  sg : ∀ i, i < 14 → w.cell? ⟨0, i, none⟩ = some (.string (bs (signsT.getD i [])))

theorem Gl.up {w w' : World} (h : Gl w) (hb : Below w.heap.size w w') : Gl w' :=
  ⟨fun i hi => keep hb (h.wd i hi), fun i hi => keep hb (h.sg i hi)⟩

/-- An array by value, read at a place within it. -/
theorem run_index_agg {P : Program} {w : World} (t e : TypeId) (n : Nat) (cs : Array Value) (i : Nat) (v : Value) (h : P.underlying t = some (.array n e)) (hi : i < n) (hs : (sizeOf e).run P w = .ok 1 w) (ha : (isAgg e).run P w = .ok false w) (hv : cs[i]? = some v) :
    (Instr.index t (.agg cs) (.int .i64 i)).run P w = .ok v w := by
  have hn : (0 ≤ (i:Int) ∧ (i:Int) < (n : Int)) := by omega
  simp [Instr.index, run_underlying h, asIntOf, hn, hi, hs, ha, hv, go_sem]

theorem size_str (w : World) : (sizeOf 9).run Tryz.prog w = .ok 1 w := by
  have : (Tryz.prog.info? 9).map (·.size) = some 1 := by kernel_rfl
  cases hq : Tryz.prog.info? 9 with
  | none => simp [hq] at this
  | some i => rw [hq] at this; simp at this; simp [sizeOf, typeInfo, hq, this]
theorem agg_str (w : World) : (isAgg 9).run Tryz.prog w = .ok false w := by
  unfold isAgg
  rw [Sem.run_bind, run_underlying (show Tryz.prog.underlying 9 = some .string by kernel_rfl) w]
  rfl

def strV (l : List UInt8) : Value := .string (bs l)

theorem Gl.wdR {w : World} (h : Gl w) : w.rangeAt 1 0 (wordsL.map strV) := by
  intro j v hj
  rw [List.getElem?_map] at hj
  cases hw : wordsL[j]? with
  | none => rw [hw] at hj; cases hj
  | some x =>
    rw [hw] at hj
    simp only [Option.map_some, Option.some.injEq] at hj
    subst hj
    have hl : j < 19 := (List.getElem?_eq_some_iff.1 hw).1
    rw [Nat.zero_add, h.wd j hl, List.getD_eq_getElem?_getD, hw]
    rfl

theorem Gl.sgR {w : World} (h : Gl w) : w.rangeAt 0 0 (signsT.map strV) := by
  intro j v hj
  rw [List.getElem?_map] at hj
  cases hw : signsT[j]? with
  | none => rw [hw] at hj; cases hj
  | some x =>
    rw [hw] at hj
    simp only [Option.map_some, Option.some.injEq] at hj
    subst hj
    have hl : j < 14 := (List.getElem?_eq_some_iff.1 hw).1
    rw [Nat.zero_add, h.sg j hl, List.getD_eq_getElem?_getD, hw]
    rfl

theorem Tryz.arrW : Tryz.prog.underlying 89 = some (.array 19 9) := by kernel_rfl
theorem Tryz.arrWs : (Tryz.prog.info? 89).map (·.size) = some 19 := by kernel_rfl
theorem Tryz.arrS : Tryz.prog.underlying 81 = some (.array 14 9) := by kernel_rfl
theorem Tryz.arrSs : (Tryz.prog.info? 81).map (·.size) = some 14 := by kernel_rfl

set_option maxHeartbeats 1000000 in
theorem reserved_any (l : List UInt8) (w : World) (hG : Gl w) :
    Calls Tryz.prog 33 #[.string (bs l)] w fun e w' => e = .returned (.bool (isWd l)) ∧ w' = w := by
  have hR := hG.wdR
  clear hG
  go_enter Tryz.func33, Tryz.ntmps33
  go_wp2_with (refine wpList_load_mid rfl 89 (.global 1) rfl 1 0 rfl (wordsL.map strV) _ hR Tryz.arrW rfl Tryz.arrWs ?_)
  have hA : ∀ k : Nat, k < 19 → (List.map strV wordsL).toArray[k]? = some (.string (bs (wordsL.getD k []))) := by
    intro k hk
    have hk' : k < wordsL.length := hk
    simp [List.getD_eq_getElem?_getD, hk', strV]
  generalize (List.map strV wordsL).toArray = A at *
  clear hR
  have HF : Hid (isWd l = false ↔ ∀ j, j < 19 → wordsL.getD j [] ≠ l) := by
    show _ ↔ _
    rw [← Bool.not_eq_true, isWd, List.contains_iff_mem]
    constructor
    · intro h j hj e
      apply h
      have hj' : j < wordsL.length := hj
      rw [← e, List.getD_eq_getElem?_getD, List.getElem?_eq_getElem hj']
      exact List.getElem_mem hj'
    · intro h hm
      obtain ⟨j, hj, e⟩ := List.mem_iff_getElem.1 hm
      refine h j hj ?_
      rw [List.getD_eq_getElem?_getD, List.getElem?_eq_getElem hj]
      exact e
  go_loop [6] (fun i => ∃ k : Nat, k ≤ 19 ∧ i = .int .i64 k ∧ Hid (∀ j, j < k → wordsL.getD j [] ≠ l)) (fun i => 19 - (intOf i).toNat)
  case atStart => exact ⟨0, Nat.zero_le _, rfl, fun j hj => absurd hj (by omega)⟩
  case round =>
    obtain ⟨k, hk, rfl, hall⟩ := hrel
    by_cases hlt : k < 19
    · obtain ⟨x, hx⟩ : ∃ x, x = wordsL.getD k [] := ⟨_, rfl⟩
      have ha := hA k hlt
      rw [← hx] at ha
      have HX : Hid (x = wordsL.getD k []) := hx
      have hI := run_index_agg (P := Tryz.prog) (w := w) 89 9 19 A k _ Tryz.arrW hlt (size_str w) (agg_str w) ha
      clear hx hA ha
      by_cases he : x = l
      · subst he
        have h1 : ((bs x).toList == (bs x).toList) = true := by simp
        go_wp2
        go_ret
        refine ⟨ret_bool ?_, rfl⟩
        cases h : isWd x with
        | true => rfl
        | false => exact absurd (show x = _ from HX).symm ((show _ ↔ _ from HF).1 h k hlt)
      · have h1 : ((bs x).toList == (bs l).toList) = false := by rw [bs_toList, bs_toList, beq_eq_false_iff_ne]; exact he
        go_wp2
        go_round
        case rel =>
          refine ⟨k + 1, by omega, by go_num, fun j hj => ?_⟩
          rcases Nat.lt_or_ge j k with h | h
          · exact (show ∀ j, j < k → _ from hall) j h
          · have e : j = k := by omega
            rw [e, ← show x = _ from HX]
            exact he
        case measure => simp [intOf]; omega
    · have hke : k = 19 := by omega
      subst hke
      go_wp2
      go_ret
      exact ⟨ret_bool ((show _ ↔ _ from HF).2 hall).symm, rfl⟩
end Go.Proofs.YtkonkplalgoekaaGreatDoor
