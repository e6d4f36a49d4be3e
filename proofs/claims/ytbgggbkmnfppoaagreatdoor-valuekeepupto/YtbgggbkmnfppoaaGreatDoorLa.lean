/-
  The walk of strings.LastIndexAny at the two signs, over ASCII bytes.
-/
import Derived.Test.YtbgggbkmnfppoaaGreatDoorSh
import Derived.Test.YtbgggbkmnfppoaaGreatDoorTx
import Derived.Test.YtbgggbkmnfppoaaGreatDoorHd
import Derived.Deep.LoopGhost
import Derived.Lib.Builder
import Derived.Deep.WholeRow
namespace Go.Proofs.YtbgggbkmnfppoaaGreatDoor
open Go.RowKit
open Go.Lib
set_option maxRecDepth 100000

/-- The two signs. -/
abbrev signs : ByteArray := ⟨#[43, 45]⟩

theorem index_signs (x : UInt8) : (0 ≤ Lib.indexByte [43, 45] x) = (isSign x = true) := by
  unfold isSign
  by_cases h1 : x = 43
  · subst h1; decide
  · by_cases h2 : x = 45
    · subst h2; decide
    · have e1 : ((43 : UInt8) == x) = false := by rw [beq_eq_false_iff_ne]; exact fun h => h1 h.symm
      have e2 : ((45 : UInt8) == x) = false := by rw [beq_eq_false_iff_ne]; exact fun h => h2 h.symm
      have e3 : (x == (43 : UInt8)) = false := by rw [beq_eq_false_iff_ne]; exact h1
      have e4 : (x == (45 : UInt8)) = false := by rw [beq_eq_false_iff_ne]; exact h2
      simp [Lib.indexByte, e1, e2, e3, e4]

set_option maxHeartbeats 400000 in
theorem decodeLast_ascii (t : ByteArray) (n : Nat) (hn : t.size = n + 1) (hmax : n < 4294967296) (b : UInt8) (hb : t[n]'(by omega) = b) (h : b.toNat < 128) (w : World) :
    Calls Tryz.prog 83 #[.string t] w fun e w' => e = .returned (.tuple #[.int .i32 b.toNat, .int .i64 1]) ∧ w' = w := by
  have h1 : ((t.size : Int) == 0) = false := by rw [beq_eq_false_iff_ne]; omega
  go_enter Tryz.func83, Tryz.ntmps83
  go_wp2
  go_ret2
  exact ⟨rfl, rfl⟩

theorem idx_rune (b : UInt8) (h : b.toNat < 128) (w : World) :
    Calls Tryz.prog 80 #[.string signs, .int .i32 b.toNat] w fun e w' => e = .returned (.int .i64 (Lib.indexByte [43, 45] b)) ∧ w' = w := by
  have := Tryz.strings_IndexRune_ascii signs (b.toNat : Int) w (by omega) (by omega)
  have e : ((b.toNat : Int)).toNat.toUInt8 = b := by simp
  rw [e] at this
  exact this

set_option maxHeartbeats 400000 in
theorem la_one (s : ByteArray) (b : UInt8) (hs : s.size = 1) (hb : s[0]'(by omega) = b) (h : b.toNat < 128) (w : World) :
    Calls Tryz.prog 66 #[.string s, .string signs] w fun e w' => e = .returned (.int .i64 (if isSign b then 0 else -1)) ∧ w' = w := by
  have hx := index_signs b
  have h1 : ((s.size : Int) == 1) = true := by rw [beq_iff_eq]; omega
  by_cases hg : isSign b = true
  · have h0 : 0 ≤ Lib.indexByte [43, 45] b := by rw [hx]; exact hg
    rw [if_pos hg]
    clear hx hg
    go_enter Tryz.func66, Tryz.ntmps66
    go_wp2_with fail
    refine (idx_rune b h _).mono ?_
    rintro e w' ⟨rfl, rfl⟩
    go_wp2_with fail
    go_ret
    exact ⟨rfl, rfl⟩
  · have h0 : ¬ 0 ≤ Lib.indexByte [43, 45] b := by rw [hx]; exact hg
    rw [if_neg hg]
    clear hx hg
    go_enter Tryz.func66, Tryz.ntmps66
    go_wp2_with fail
    refine (idx_rune b h _).mono ?_
    rintro e w' ⟨rfl, rfl⟩
    go_wp2_with fail
    go_ret
    exact ⟨rfl, rfl⟩

theorem take_snoc (s : ByteArray) (k : Nat) (h : k < s.size) : s.data.toList.take (k + 1) = s.data.toList.take k ++ [s[k]] := by
  rw [List.take_succ_eq_append_getElem (by simpa using h)]; rfl

set_option maxHeartbeats 1000000 in
theorem la_short (s : ByteArray) (hne : s.size ≠ 1) (h8 : s.size ≤ 8) (hA : ∀ (j : Nat) (hj : j < s.size), (s[j]'hj).toNat < 128) (w : World) :
    Calls Tryz.prog 66 #[.string s, .string signs] w fun e w' => e = .returned (.int .i64 (lastS s.data.toList)) ∧ w' = w := by
  have h1 : ((s.size : Int) == 1) = false := by rw [beq_eq_false_iff_ne]; omega
  have h8z : decide ((8 : Int) < (s.size : Int)) = false := decide_eq_false (by omega)
  have HA : Hid (∀ (j : Nat) (hj : j < s.size), (s[j]'hj).toNat < 128) := hA
  clear hA
  go_enter Tryz.func66, Tryz.ntmps66
  go_wp2_with (go_at_call 81; refine (Tryz.strings_shouldUseASCIISet _ _).mono ?_; rintro e w' ⟨rfl, rfl⟩; rw [h8z])
  go_loop [13] (fun i => ∃ k : Nat, k ≤ s.size ∧ i = .int .i64 k ∧ Hid (lastS s.data.toList = lastS (s.data.toList.take k))) (fun i => (RowKit.intOf i).toNat)
  case atStart => exact ⟨s.size, Nat.le_refl _, rfl, show lastS s.data.toList = lastS (s.data.toList.take s.size) from by rw [List.take_of_length_le (Nat.le_of_eq (Lib.size_eq s).symm)]⟩
  case round =>
    obtain ⟨k, hk, rfl, hl⟩ := hrel
    cases k with
    | zero =>
      go_wp2
      go_ret
      refine ⟨?_, rfl⟩
      rw [hl.out]; rfl
    | succ k =>
      have hlt : k < s.size := by omega
      have hts : Hid (s.data.toList.take (k + 1) = s.data.toList.take k ++ [s[k]]) := take_snoc s k hlt
      have hb := HA.out k hlt
      go_wp2_with fail
      refine (decodeLast_ascii _ k (by simp [ByteArray.size_extract]; omega) (by omega) s[k] (by simp [ByteArray.getElem_extract]) hb _).mono ?_
      rintro e w' ⟨rfl, rfl⟩
      go_wp2_with fail
      refine (idx_rune _ hb _).mono ?_
      rintro e w' ⟨rfl, rfl⟩
      by_cases hg : isSign s[k] = true
      · have h0 : 0 ≤ Lib.indexByte [43, 45] s[k] := by rw [index_signs]; exact hg
        go_wp2_with fail
        go_ret
        refine ⟨?_, rfl⟩
        rw [hl.out, hts.out, lastS_snoc, if_pos hg]
        simp; omega
      · have h0 : ¬ 0 ≤ Lib.indexByte [43, 45] s[k] := by rw [index_signs]; exact hg
        go_wp2_with fail
        go_round
        case rel => exact ⟨k, by omega, by go_num, show lastS s.data.toList = lastS (s.data.toList.take k) from by rw [hl.out, hts.out, lastS_snoc, if_neg hg]⟩
        case measure => simp [RowKit.intOf]

set_option maxHeartbeats 1000000 in
theorem la_long (s : ByteArray) (h8 : 8 < s.size) (hs : s.size ≤ 281474976710656) (w : World) :
    Calls Tryz.prog 66 #[.string s, .string signs] w fun e w' => e = .returned (.int .i64 (lastS s.data.toList)) ∧ Below w.heap.size w w' := by
  have h1 : ((s.size : Int) == 1) = false := by rw [beq_eq_false_iff_ne]; omega
  have h8z : decide ((8 : Int) < (s.size : Int)) = true := decide_eq_true (by omega)
  have hv : ∀ w, (zeroValue 114).run Tryz.prog w = .ok (.agg (Array.replicate 256 (.bool false))) w := fun w => by kernel_rfl
  have hM := Tryz.strings_makeASCIISet hv signs w (by decide) (by
    intro j b hb
    have : b ∈ signs.data.toList := List.mem_of_getElem? hb
    simp at this
    rcases this with rfl | rfl <;> decide)
  have hsc : (storeCells ⟨w.heap.size + 1, 0, none⟩ (Lib.setCells [43, 45]).toList 0).run Tryz.prog ((w.alloc (.cells (Lib.setCells [43, 45]) 114)).alloc (.cells (Array.replicate 256 (.bool false)) 114)) = .ok () ((w.alloc (.cells (Lib.setCells [43, 45]) 114)).alloc (.cells (Lib.setCells [43, 45]) 114)) := by
    have := run_storeCells_new (P := Tryz.prog) (w.alloc (.cells (Lib.setCells [43, 45]) 114)) 114 (Array.replicate 256 (.bool false)) (Lib.setCells [43, 45]) (by rw [Lib.setCells_size]; kernel_rfl) (by rw [Lib.setCells_size, Array.size_replicate]) (Lib.setCells_one _)
    simpa using this
  have HC : Hid (∀ x : UInt8, ((w.alloc (.cells (Lib.setCells [43, 45]) 114)).alloc (.cells (Lib.setCells [43, 45]) 114)).cell? ⟨w.heap.size + 1, x.toNat, none⟩ = some (.bool (isSign x))) := fun x => by
    rw [World.cell?_alloc_at _ _ _ _ (by simp), Lib.setCells_at]
    have e : [43, 45].contains x = isSign x := by rw [Bool.eq_iff_iff]; simp [isSign]
    rw [e]
  go_enter Tryz.func66, Tryz.ntmps66
  go_wp2_with (first
    | (go_at_call 81; refine (Tryz.strings_shouldUseASCIISet _ _).mono ?_; rintro e w' ⟨rfl, rfl⟩; rw [h8z])
    | (go_at_call 70; refine hM.mono ?_; rintro e w' ⟨rfl, rfl⟩))
  clear hM hsc
  go_loop [8] (fun i => ∃ k : Nat, k ≤ s.size ∧ i = .int .i64 ((k : Int) - 1) ∧ Hid (lastS s.data.toList = lastS (s.data.toList.take k))) (fun i => (RowKit.intOf i + 1).toNat)
  case atStart => exact ⟨s.size, Nat.le_refl _, rfl, show lastS s.data.toList = lastS (s.data.toList.take s.size) from by rw [List.take_of_length_le (Nat.le_of_eq (Lib.size_eq s).symm)]⟩
  case round =>
    obtain ⟨k, hk, rfl, hl⟩ := hrel
    cases k with
    | zero =>
      go_wp2
      go_ret
      refine ⟨?_, bal (bal (Below.refl _ _))⟩
      rw [hl.out]; rfl
    | succ k =>
      have hlt : k < s.size := by omega
      have hts : Hid (s.data.toList.take (k + 1) = s.data.toList.take k ++ [s[k]]) := take_snoc s k hlt
      have e1 : (((k + 1 : Nat) : Int)) - 1 = (k : Int) := by omega
      rw [e1]
      have hcx := HC.out s[k]
      by_cases hg : isSign s[k] = true
      · rw [hg] at hcx
        go_wp2_with (go_at_call 82; refine (Tryz.asciiSet_contains _ s[k] _ _ hcx).mono ?_; rintro e w' ⟨rfl, rfl⟩)
        go_ret
        refine ⟨?_, bal (bal (Below.refl _ _))⟩
        rw [hl.out, hts.out, lastS_snoc, if_pos hg]
        simp; omega
      · have hg' : isSign s[k] = false := by simpa using hg
        rw [hg'] at hcx
        go_wp2_with (go_at_call 82; refine (Tryz.asciiSet_contains _ s[k] _ _ hcx).mono ?_; rintro e w' ⟨rfl, rfl⟩)
        go_round
        case rel => exact ⟨k, by omega, by go_num, show lastS s.data.toList = lastS (s.data.toList.take k) from by rw [hl.out, hts.out, lastS_snoc, if_neg hg]⟩
        case measure => simp [RowKit.intOf]
end Go.Proofs.YtbgggbkmnfppoaaGreatDoor
