/-
  Tuples of numbers: the program's Tuple and the document's.
-/
import Derived.Test.YtiikkbofcccjfaaT3
namespace Go.Proofs.Ytiikkbofcccjfaa
open Go.RowKit
open Go.Lib
open RowsM
set_option maxRecDepth 100000

theorem Try.infoP : (Try.prog.info? 54).map (fun i => (i.zero, i.size, i.bytes)) = some (some (.int .i64 0), 1, 8) := by kernel_rfl
theorem Try.underP : Try.prog.underlying 23 = some (.slice 54) := by kernel_rfl

theorem made_pts (m : Nat) : (madeCells (Value.int .i64 0).cells (m * 1)).toList = (List.replicate m (0 : Int)).map (fun z : Int => Value.int .i64 z) := by
  rw [List.map_replicate]
  simp only [madeCells, Value.cells]
  apply List.ext_getElem
  · simp
  · intro i h1 h2
    simp [Nat.mod_one]

/-- What the tuple holds while its points are written, from the last on. -/
def part16 (L : List Int) (m : Nat) : List Int := List.replicate m 0 ++ L.drop m
theorem part16_start (L : List Int) : part16 L L.length = List.replicate L.length 0 := by simp [part16]
theorem part16_end (L : List Int) : part16 L 0 = L := by simp [part16]
theorem part16_len {L : List Int} {m : Nat} (h : m ≤ L.length) : (part16 L m).length = L.length := by simp [part16]; omega
theorem part16_get (L : List Int) (m i : Nat) : (part16 L m)[i]? = if i < m then some 0 else L[i]? := by
  unfold part16
  by_cases h : i < m
  · rw [if_pos h, List.getElem?_append_left (by simpa using h), List.getElem?_replicate, if_pos h]
  · rw [if_neg h, List.getElem?_append_right (by simp; omega), List.getElem?_drop, List.length_replicate]
    congr 1
    omega
theorem part16_set {L : List Int} {m : Nat} (h : m < L.length) : (part16 L (m + 1)).set m (L.getD m 0) = part16 L m := by
  apply List.ext_getElem?
  intro i
  rw [part16_get, List.getElem?_set, part16_get, part16_len (by omega)]
  by_cases e : m = i
  · subst e
    rw [if_pos rfl, if_pos h, if_neg (by omega), List.getD_eq_getElem?_getD, List.getElem?_eq_getElem h]
    rfl
  · rw [if_neg e]
    by_cases hi : i < m
    · rw [if_pos hi, if_pos (by omega)]
    · rw [if_neg hi, if_neg (by omega)]

theorem dig_rest {ks : List Int} (h : okTs ks = true) {m : Nat} (hm : m < ks.length) (n : Int) : n / prodT (ks.drop (m + 1)) / (topP (ks.getD m 0) + 1) = n / prodT (ks.drop m) := by
  rw [prodT_drop hm, Int.mul_comm, Int.ediv_ediv_of_nonneg (by have := prodT_pos (okTs_split h (m + 1)).2; omega)]

/-- How Tuple ends. -/
def TupEnd (ks : List Int) (n : Int) (w : World) (e : Ending) (w' : World) : Prop :=
  ∃ v, e = .returned (.tuple #[v, .int .i64 (tupE ks n)]) ∧ w'.ownsRow w.heap.size 54 1 v (tupV ks n).length ((tupV ks n).map fun z => .int .i64 z) ∧ Below w.heap.size w w'

theorem tupEnd_no {ks : List Int} {n c : Int} {w w' : World} (h : tupE ks n = c) (hc : c ≠ 0) (hb : Below w.heap.size w w') : TupEnd ks n w (.returned (.tuple #[.slice none 0 0, .int .i64 c])) w' := by
  subst h
  refine ⟨_, rfl, ?_, hb⟩
  unfold tupV
  rw [if_neg hc]
  exact World.ownsRow_nil _ _ _ _
theorem tup_cnt {ks : List Int} {n : Int} (h : cntE ks ≠ 0) : tupE ks n = cntE ks := by unfold tupE; rw [if_neg h]
theorem tup_no {ks : List Int} {n : Int} (h : cntE ks = 0) (hn : n < 0 ∨ cntV ks ≤ n) : tupE ks n = 2 := by
  rw [cntV_zero h] at hn
  unfold tupE; rw [if_pos h, if_neg (by omega)]
theorem tup_yes {ks : List Int} {n : Int} (h : cntE ks = 0) (h0 : 0 ≤ n) (hn : n < cntV ks) : tupE ks n = 0 ∧ tupV ks n = tupL ks n := by
  rw [cntV_zero h] at hn
  have e : tupE ks n = 0 := by unfold tupE; rw [if_pos h, if_pos ⟨h0, hn⟩]
  exact ⟨e, by unfold tupV; rw [if_pos e]⟩
theorem div_le_of {n s : Int} (h0 : 0 ≤ n) (_ : 2 ≤ s) : 0 ≤ n / s ∧ n / s ≤ n := ⟨Int.ediv_nonneg h0 (by omega), Int.ediv_le_self _ h0⟩

set_option maxHeartbeats 1000000 in
theorem tuple_any (ks : List Int) (n : Int) (ao : Option Addr) (ca : Nat) (w : World) (h : Iz w ao ks) (hl : ks.length ≤ 17592186043904) :
    Calls Try.prog 14 #[.slice ao ks.length ca, .int .i64 n] w fun e w' => TupEnd ks n w e w' := by
  have hcn := count16_any ks ao ca w h hl
  by_cases hE : cntE ks = 0
  · rw [hE] at hcn
    have hok := cntE_zero hE
    by_cases hn : n < 0 ∨ cntV ks ≤ n
    · have hno := fun w' => tupEnd_no (w := w) (w' := w') (tup_no hE hn) (by omega)
      generalize cntV ks = C at *
      clear hE hok
      rcases Decidable.em (n < 0) with h0 | h0
      · go_enter Try.func14, Try.ntmps14
        go_wp2_with fail
        refine hcn.mono ?_
        rintro e w1 ⟨rfl, hb1⟩
        clear h hcn hn
        go_wp2
        go_ret2
        exact hno _ hb1
      · have h1 : C ≤ n := by omega
        go_enter Try.func14, Try.ntmps14
        go_wp2_with fail
        refine hcn.mono ?_
        rintro e w1 ⟨rfl, hb1⟩
        clear h hcn hn
        go_wp2
        go_ret2
        exact hno _ hb1
    · have h0 : 0 ≤ n := by omega
      have h1 : n < cntV ks := by omega
      have hlen := prodT_len hok.1
      have hl4 : ks.length ≤ 4095 := by omega
      have hC : cntV ks ≤ 4096 := by rw [cntV_zero hE]; exact hok.2
      have hn4 : n < 4096 := by omega
      have HY : Hid (tupE ks n = 0 ∧ tupV ks n = tupL ks n) := tup_yes hE h0 h1
      have HOK : Hid (okTs ks = true ∧ prodT ks ≤ 4096) := hok
      generalize cntV ks = C at *
      clear hE hok hlen hn
      obtain ⟨i0, hi, hz0, hz1, hz2⟩ := info_parts Try.infoP
      go_enter Try.func14, Try.ntmps14
      go_wp2_with fail
      refine hcn.mono ?_
      rintro e w1 ⟨rfl, hb1⟩
      have h2 := h.up hb1
      have hs1 := hb1.size
      clear h hcn
      go_wp2_with (at_make; refine wpList_make_full _ rfl _ _ 23 rfl w.heap.size 54 i0 (.int .i64 0) 1 Try.underP hi hz0 hz1 _ _ _ _ ks.length rfl rfl (by omega) (by omega) (by rw [hz2]; omega) (by unfold maxLen; omega) (by omega) ?_; intro w2 hown hgrow; have hb2 := (Below.refl w1.heap.size w1).grown hgrow (by omega) (by intro k hk; cases hk))
      rw [made_pts] at hown
      have hown2 : w2.ownsRow w.heap.size 54 1 (.slice (some ⟨w1.heap.size, 0, none⟩) ks.length ks.length) ks.length ((part16 (tupL ks n) ks.length).map fun z => Value.int .i64 z) := by
        have e := part16_start (tupL ks n)
        rw [tupL_len] at e
        rw [e]
        exact hown
      clear hown hgrow
      go_loopw [1, 9] (fun a i wr => ∃ m : Nat, m ≤ ks.length ∧ ∃ j : Int, (j = (m : Int) - 1 ∧ i = .int .i64 j) ∧ ∃ q : Int, a = .int .i64 q ∧ 0 ≤ q ∧ q < 4096 ∧ Hid (q = n / prodT (ks.drop m)) ∧ Below w1.heap.size w1 wr ∧
        wr.ownsRow w.heap.size 54 1 (.slice (some ⟨w1.heap.size, 0, none⟩) ks.length ks.length) ks.length ((part16 (tupL ks n) m).map fun z => Value.int .i64 z)) (fun _ i _ => (intOf i + 1).toNat)
      case atStart => exact ⟨ks.length, Nat.le_refl _, _, ⟨rfl, rfl⟩, n, rfl, h0, hn4, by show n = _; rw [List.drop_length]; simp [prodT], hb2, hown2⟩
      case round =>
        obtain ⟨m, hm, j, ⟨hj, rfl⟩, q, rfl, q0, q1, HQ, hbz, ho⟩ := hrel
        have hbw := Below.thn hb1 hbz
        by_cases hlt : 1 ≤ m
        · obtain ⟨k, rfl⟩ : ∃ k, m = k + 1 := ⟨m - 1, by omega⟩
          have hkl : k < ks.length := by omega
          obtain rfl : j = (k : Int) := by omega
          clear hj
          have hI := h2.up hbz
          obtain ⟨b, off, rfl, hc⟩ := hI (by intro e; subst e; simp at hkl)
          obtain ⟨t, hte⟩ : ∃ t, t = ks.getD k 0 := ⟨_, rfl⟩
          have hct := hc k hkl
          rw [← hte] at hct
          have ht0 := okTs_get HOK.out.1 hkl
          rw [← hte] at ht0
          have hs := sz_pos ht0
          have hdig := tupL_get ks n k hkl
          unfold dig at hdig
          rw [← show q = _ from HQ, ← hte] at hdig
          have hrest := dig_rest HOK.out.1 hkl n
          rw [← show q = _ from HQ, ← hte] at hrest
          have hset := part16_set (L := tupL ks n) (m := k) (by rw [tupL_len]; exact hkl)
          rw [hdig] at hset
          have hplen := part16_len (L := tupL ks n) (m := k + 1) (by rw [tupL_len]; exact hm)
          rw [tupL_len] at hplen
          have hcell := ho.cellAt k (by omega)
          have hfr := ho.frozenAt k
          obtain ⟨y, hy⟩ : ∃ y, wr.cell? ⟨w1.heap.size, k, none⟩ = some y := by rw [hcell]; exact ⟨_, by rw [List.getElem?_map, List.getElem?_eq_getElem (by omega)]; rfl⟩
          clear hI hc hte hcell
          have hit := size_any t wr ht0
          generalize topP t = p at *
          obtain ⟨s, hse⟩ : ∃ s, s = p + 1 := ⟨_, rfl⟩
          rw [← hse] at hit hs hset hrest
          clear hse
          obtain ⟨hs0, hs1'⟩ := hs
          have hmod0 := Int.emod_nonneg q (show s ≠ 0 by omega)
          have hmod1 := Int.emod_lt_of_pos q (show 0 < s by omega)
          obtain ⟨hd0, hd1⟩ := div_le_of q0 hs0
          have hst := (ho.stored k (.int .i64 (q % (s)))).1
          have hmp : ((part16 (tupL ks n) (k + 1)).map fun z => Value.int .i64 z).set k (.int .i64 (q % (s))) = (part16 (tupL ks n) k).map fun z => Value.int .i64 z := by rw [← hset, List.map_set]
          rw [hmp] at hst
          have hbs : Below w1.heap.size w1 (wr.setCell ⟨w1.heap.size, k, none⟩ (.int .i64 (q % (s)))) := hbz.setCell (Nat.le_refl _) _
          have HST : Hid ((wr.setCell ⟨w1.heap.size, k, none⟩ (.int .i64 (q % (s)))).ownsRow w.heap.size 54 1 (.slice (some ⟨w1.heap.size, 0, none⟩) ks.length ks.length) ks.length ((part16 (tupL ks n) k).map fun z => Value.int .i64 z)) := hst
          have HBS : Hid (Below w1.heap.size w1 (wr.setCell ⟨w1.heap.size, k, none⟩ (.int .i64 (q % (s))))) := hbs
          have HQ2 : Hid (q / (s) = n / prodT (ks.drop k)) := hrest
          clear hdig hrest hset hplen hst hmp hbs HQ HY ho h2
          go_wp2_with fail
          refine hit.mono ?_
          rintro e w3 ⟨rfl, rfl⟩
          clear hit
          go_wp2
          go_roundw
          case rel => exact ⟨k, by omega, _, ⟨rfl, by go_num⟩, q / (s), by go_num, by omega, by omega, HQ2, HBS, HST⟩
          case measure => simp [intOf]
        · obtain rfl : m = 0 := by omega
          obtain rfl : j = -1 := by omega
          clear hj
          rw [part16_end] at ho
          clear HQ h2
          go_wp2
          go_ret2
          obtain ⟨e1, e2⟩ := HY.out
          refine ⟨.slice (some ⟨w1.heap.size, 0, none⟩) ks.length ks.length, by rw [e1]; rfl, ?_, hbw⟩
          rw [e2, tupL_len]
          exact ho
  · have hno := fun w' => tupEnd_no (n := n) (w := w) (w' := w') (tup_cnt hE) hE
    generalize cntV ks = C at *
    have hc := cntE_cases ks
    generalize cntE ks = c at *
    rcases hc with rfl | rfl | rfl
    · exact absurd rfl hE
    all_goals
      clear hE
      go_enter Try.func14, Try.ntmps14
      go_wp2_with fail
      refine hcn.mono ?_
      rintro e w1 ⟨rfl, hb1⟩
      clear h hcn
      go_wp2
      go_ret2
      exact hno _ hb1

set_option maxHeartbeats 1000000 in
theorem rtuple_any (ks : List Int) (n : Int) (ao : Option Addr) (ca : Nat) (w : World) (h : Iz w ao ks) (hl : ks.length ≤ 17592186043904) :
    Calls Try.prog 15 #[.slice ao ks.length ca, .int .i64 n] w fun e w' => TupEnd ks n w e w' := by
  have hcn := rcount_any ks ao ca w h hl
  by_cases hE : cntE ks = 0
  · rw [hE] at hcn
    have hok := cntE_zero hE
    by_cases hn : n < 0 ∨ cntV ks ≤ n
    · have hno := fun w' => tupEnd_no (w := w) (w' := w') (tup_no hE hn) (by omega)
      generalize cntV ks = C at *
      clear hE hok
      rcases Decidable.em (n < 0) with h0 | h0
      · go_enter Try.func15, Try.ntmps15
        go_wp2_with fail
        refine hcn.mono ?_
        rintro e w1 ⟨rfl, hb1⟩
        clear h hcn hn
        go_wp2
        go_ret2
        exact hno _ hb1
      · have h1 : C ≤ n := by omega
        go_enter Try.func15, Try.ntmps15
        go_wp2_with fail
        refine hcn.mono ?_
        rintro e w1 ⟨rfl, hb1⟩
        clear h hcn hn
        go_wp2
        go_ret2
        exact hno _ hb1
    · have h0 : 0 ≤ n := by omega
      have h1 : n < cntV ks := by omega
      have hlen := prodT_len hok.1
      have hl4 : ks.length ≤ 4095 := by omega
      have hC : cntV ks ≤ 4096 := by rw [cntV_zero hE]; exact hok.2
      have hn4 : n < 4096 := by omega
      have HY : Hid (tupE ks n = 0 ∧ tupV ks n = tupL ks n) := tup_yes hE h0 h1
      have HOK : Hid (okTs ks = true ∧ prodT ks ≤ 4096) := hok
      generalize cntV ks = C at *
      clear hE hok hlen hn
      obtain ⟨i0, hi, hz0, hz1, hz2⟩ := info_parts Try.infoP
      go_enter Try.func15, Try.ntmps15
      go_wp2_with fail
      refine hcn.mono ?_
      rintro e w1 ⟨rfl, hb1⟩
      have h2 := h.up hb1
      have hs1 := hb1.size
      clear h hcn
      go_wp2_with (at_make; refine wpList_make_full _ rfl _ _ 23 rfl w.heap.size 54 i0 (.int .i64 0) 1 Try.underP hi hz0 hz1 _ _ _ _ ks.length rfl rfl (by omega) (by omega) (by rw [hz2]; omega) (by unfold maxLen; omega) (by omega) ?_; intro w2 hown hgrow; have hb2 := (Below.refl w1.heap.size w1).grown hgrow (by omega) (by intro k hk; cases hk))
      rw [made_pts] at hown
      have hown2 : w2.ownsRow w.heap.size 54 1 (.slice (some ⟨w1.heap.size, 0, none⟩) ks.length ks.length) ks.length ((part16 (tupL ks n) ks.length).map fun z => Value.int .i64 z) := by
        have e := part16_start (tupL ks n)
        rw [tupL_len] at e
        rw [e]
        exact hown
      clear hown hgrow
      go_loopw [1, 9] (fun a i wr => ∃ m : Nat, m ≤ ks.length ∧ ∃ j : Int, (j = (m : Int) - 1 ∧ i = .int .i64 j) ∧ ∃ q : Int, a = .int .i64 q ∧ 0 ≤ q ∧ q < 4096 ∧ Hid (q = n / prodT (ks.drop m)) ∧ Below w1.heap.size w1 wr ∧
        wr.ownsRow w.heap.size 54 1 (.slice (some ⟨w1.heap.size, 0, none⟩) ks.length ks.length) ks.length ((part16 (tupL ks n) m).map fun z => Value.int .i64 z)) (fun _ i _ => (intOf i + 1).toNat)
      case atStart => exact ⟨ks.length, Nat.le_refl _, _, ⟨rfl, rfl⟩, n, rfl, h0, hn4, by show n = _; rw [List.drop_length]; simp [prodT], hb2, hown2⟩
      case round =>
        obtain ⟨m, hm, j, ⟨hj, rfl⟩, q, rfl, q0, q1, HQ, hbz, ho⟩ := hrel
        have hbw := Below.thn hb1 hbz
        by_cases hlt : 1 ≤ m
        · obtain ⟨k, rfl⟩ : ∃ k, m = k + 1 := ⟨m - 1, by omega⟩
          have hkl : k < ks.length := by omega
          obtain rfl : j = (k : Int) := by omega
          clear hj
          have hI := h2.up hbz
          obtain ⟨b, off, rfl, hc⟩ := hI (by intro e; subst e; simp at hkl)
          obtain ⟨t, hte⟩ : ∃ t, t = ks.getD k 0 := ⟨_, rfl⟩
          have hct := hc k hkl
          rw [← hte] at hct
          have ht0 := okTs_get HOK.out.1 hkl
          rw [← hte] at ht0
          have hs := sz_pos ht0
          have hdig := tupL_get ks n k hkl
          unfold dig at hdig
          rw [← show q = _ from HQ, ← hte] at hdig
          have hrest := dig_rest HOK.out.1 hkl n
          rw [← show q = _ from HQ, ← hte] at hrest
          have hset := part16_set (L := tupL ks n) (m := k) (by rw [tupL_len]; exact hkl)
          rw [hdig] at hset
          have hplen := part16_len (L := tupL ks n) (m := k + 1) (by rw [tupL_len]; exact hm)
          rw [tupL_len] at hplen
          have hcell := ho.cellAt k (by omega)
          have hfr := ho.frozenAt k
          obtain ⟨y, hy⟩ : ∃ y, wr.cell? ⟨w1.heap.size, k, none⟩ = some y := by rw [hcell]; exact ⟨_, by rw [List.getElem?_map, List.getElem?_eq_getElem (by omega)]; rfl⟩
          clear hI hc hte hcell
          have hit := rtop_any t wr
          generalize topP t = p at *
          obtain ⟨hs0, hs1'⟩ := hs
          have hmod0 := Int.emod_nonneg q (show p + 1 ≠ 0 by omega)
          have hmod1 := Int.emod_lt_of_pos q (show 0 < p + 1 by omega)
          obtain ⟨hd0, hd1⟩ := div_le_of q0 hs0
          have hst := (ho.stored k (.int .i64 (q % (p + 1)))).1
          have hmp : ((part16 (tupL ks n) (k + 1)).map fun z => Value.int .i64 z).set k (.int .i64 (q % (p + 1))) = (part16 (tupL ks n) k).map fun z => Value.int .i64 z := by rw [← hset, List.map_set]
          rw [hmp] at hst
          have hbs : Below w1.heap.size w1 (wr.setCell ⟨w1.heap.size, k, none⟩ (.int .i64 (q % (p + 1)))) := hbz.setCell (Nat.le_refl _) _
          have HST : Hid ((wr.setCell ⟨w1.heap.size, k, none⟩ (.int .i64 (q % (p + 1)))).ownsRow w.heap.size 54 1 (.slice (some ⟨w1.heap.size, 0, none⟩) ks.length ks.length) ks.length ((part16 (tupL ks n) k).map fun z => Value.int .i64 z)) := hst
          have HBS : Hid (Below w1.heap.size w1 (wr.setCell ⟨w1.heap.size, k, none⟩ (.int .i64 (q % (p + 1))))) := hbs
          have HQ2 : Hid (q / (p + 1) = n / prodT (ks.drop k)) := hrest
          clear hdig hrest hset hplen hst hmp hbs HQ HY ho h2
          go_wp2_with fail
          refine hit.mono ?_
          rintro e w3 ⟨rfl, rfl⟩
          clear hit
          go_wp2
          go_roundw
          case rel => exact ⟨k, by omega, _, ⟨rfl, by go_num⟩, q / (p + 1), by go_num, by omega, by omega, HQ2, HBS, HST⟩
          case measure => simp [intOf]
        · obtain rfl : m = 0 := by omega
          obtain rfl : j = -1 := by omega
          clear hj
          rw [part16_end] at ho
          clear HQ h2
          go_wp2
          go_ret2
          obtain ⟨e1, e2⟩ := HY.out
          refine ⟨.slice (some ⟨w1.heap.size, 0, none⟩) ks.length ks.length, by rw [e1]; rfl, ?_, hbw⟩
          rw [e2, tupL_len]
          exact ho
  · have hno := fun w' => tupEnd_no (n := n) (w := w) (w' := w') (tup_cnt hE) hE
    generalize cntV ks = C at *
    have hc := cntE_cases ks
    generalize cntE ks = c at *
    rcases hc with rfl | rfl | rfl
    · exact absurd rfl hE
    all_goals
      clear hE
      go_enter Try.func15, Try.ntmps15
      go_wp2_with fail
      refine hcn.mono ?_
      rintro e w1 ⟨rfl, hb1⟩
      clear h hcn
      go_wp2
      go_ret2
      exact hno _ hb1
end Go.Proofs.Ytiikkbofcccjfaa
