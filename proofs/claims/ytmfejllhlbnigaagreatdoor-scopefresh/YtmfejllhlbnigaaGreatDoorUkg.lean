/-
  2 texts in one: what each proves stands at its head.
-/
import Derived.Test.YtmfejllhlbnigaaGreatDoorUN
import Derived.Test.YtmfejllhlbnigaaGreatDoorUk
import Derived.SliceStrings
import Derived.SizedLaws
import Derived.Test.YtmfejllhlbnigaaGreatDoorUkf
import Derived.Test.YtmfejllhlbnigaaGreatDoorUke
/-
  A slice of strings among a law's arguments, opened; how many they may be.
-/
namespace Go.Proofs.YtmfejllhlbnigaaGreatDoor
open Go.ChangeShapes Go.WideShapes Go.ChangeAt Go.RowKit Go.Joins
set_option maxRecDepth 100000

theorem cellsStr : Tryz.prog.cellsOf 9 = 1 := by kernel_rfl
theorem bytesStr : Tryz.prog.bytesOf 9 = 16 := by kernel_rfl
theorem open_names {H : Type} {enc : TypeId × Value → H} {w : World} {r : Reach} {b0 : Nat} {v : Value} {d : DataW H} {p : List MemPlace} {ts : List TypeId} {ds : List (DataW H)}
    (hs : (DataW.weightsEach Tryz.prog ts ds).all (· ≤ reachBytes) = true) {j : Nat} (ht : ts[j]? = some 35) (hd : ds[j]? = some d) (hv : Value.okWide Tryz.prog w r b0 35 v) (h : DataW.Trod enc Tryz.prog w 0 (fun _ => true) true 35 v d p) :
    ∃ (ao : Option Addr) (cap : Nat) (xs : List (List UInt8)), v = .slice ao xs.length cap ∧ Ns w ao xs ∧ (ao = none → cap = 0) ∧ xs.length ≤ 8796093022208 ∧ ∀ s ∈ xs, s.length ≤ maxLen := by
  obtain ⟨a0, n0, c0, rfl⟩ := okWide_slice Tryz.underlying35 hv
  obtain ⟨fuel, hm⟩ := h
  rcases open_strings Tryz.underlying35 Tryz.underlying9 cellsStr hm with ⟨hcs, hx⟩ | ⟨a, len, cap, ss, hcs, _, hl, hmx, hzs, hx, hcell, hwz⟩
  · simp [Value.cells] at hcs
    obtain ⟨rfl, rfl, rfl⟩ := hcs
    exact ⟨none, 0, [], rfl, Ns.nil _ _, fun _ => rfl, by simp, fun s h => by cases h⟩
  · simp [Value.cells] at hcs
    obtain ⟨rfl, rfl, rfl⟩ := hcs
    simp only [if_true] at hzs
    have he : d = .slice (strs (ss.take n0)) (strs (ss.drop n0)) := congrArg Prod.fst hx
    rw [he] at hd
    have hb := sized_slice hs ht hd Tryz.underlying35
    have e1 : (strs (H := H) (ss.take n0)).length = n0 := by simp [strs]; omega
    have hxl : ((ss.take n0).map fun s => s.data.toList).length = n0 := by rw [List.length_map, List.length_take]; omega
    refine ⟨some a, c0, (ss.take n0).map fun s => s.data.toList, by rw [hxl], fun i s hi => ?_, (fun e => by cases e), ?_, fun s hs => ?_⟩
    · have hin : i < n0 := by have := (List.getElem?_eq_some_iff.1 hi).1; omega
      have hc := hcell i (by omega)
      obtain ⟨b, off, spot⟩ := a
      have hspot : spot = none := by simpa [Addr.add] using World.cell?_spot (hcell 0 (by omega))
      subst hspot
      refine ⟨b, off, rfl, ?_⟩
      rw [Addr.add_mid] at hc
      rw [hc]
      rw [List.getElem?_map, List.getElem?_take_of_lt hin, List.getElem?_eq_getElem (by omega)] at hi
      simp only [Option.map_some, Option.some.injEq] at hi
      rw [List.getD_eq_getElem?_getD, List.getElem?_eq_getElem (by omega), ← hi]
      simp [bs]
    · rw [hxl]
      rw [bytesStr, e1] at hb
      unfold reachBytes at hb
      omega
    · obtain ⟨x, hx1, rfl⟩ := List.mem_map.1 hs
      have := hwz x (List.mem_of_mem_take hx1)
      rw [Array.length_toList]
      exact this
end Go.Proofs.YtmfejllhlbnigaaGreatDoor
/-
  The walk of ScopeFresh.
-/
namespace Go.Proofs.YtmfejllhlbnigaaGreatDoor
open Go.RowKit Go.Maps
set_option maxRecDepth 100000

theorem OwN.lt {w : World} {B : Nat} {v : Value} {xs : List (List UInt8)} (h : OwN w B v xs) : ∀ g off c n, v = .slice (some ⟨g, off, none⟩) n c → g < w.heap.size := fun g off c n e => by
  subst e
  exact (owns_has h g rfl).2
theorem OwN.cap {w : World} {B : Nat} {v : Value} {xs : List (List UInt8)} (h : OwN w B v xs) : ∀ ao c, v = .slice ao xs.length c → xs.length ≤ c := fun ao c e => by
  rcases h.2 with ⟨e1, h0⟩ | ⟨g, c', cur, e1, hb, hg, h1, _⟩
  · omega
  · rw [e] at e1
    cases e1
    exact h1
theorem Ns.take {w : World} {ao : Option Addr} {xs : List (List UInt8)} (h : Ns w ao xs) (k : Nat) : Ns w ao (xs.take k) := fun j s hj => by
  rw [List.getElem?_take] at hj
  split at hj
  · exact h j s hj
  · cases hj
theorem nodup_take {xs : List (List UInt8)} (h : xs.Nodup) {k : Nat} (hk : k < xs.length) : xs[k] ∉ xs.take k := fun hm => by
  obtain ⟨i, hi, e⟩ := List.mem_iff_getElem.1 hm
  rw [List.length_take] at hi
  rw [List.getElem_take] at e
  have := List.pairwise_iff_getElem.1 h i k (by omega) hk (by omega)
  exact this e

set_option maxHeartbeats 8000000 in
theorem scopeFresh_any (ao : Option Addr) (cap : Nat) (l : List (List UInt8)) (hn : ao = none → cap = 0) (hl : l.length ≤ 8796093022208) (hs : ∀ s ∈ l, s.length ≤ maxLen) (z : Int) (w : World) (hT : Ns w ao l) (ht : Tab w) :
    Calls Tryz.prog 5 #[.slice ao l.length cap, .int .i64 z] w fun e w' => e = .returned (.bool true) ∧ Below w.heap.size w w' := by
  have HN0 : Hid (ao = none → cap = 0) := hn
  have HS : Hid (∀ s ∈ l, s.length ≤ maxLen) := hs
  have HL : Hid (l.length ≤ 8796093022208) := hl
  clear hn hs
  go_enter Tryz.func5, Tryz.ntmps5
  go_wp2_with fail
  refine (awake6_any w ht).mono ?_
  rintro e w1 ⟨rfl, hb1⟩
  have ht1 := tab_keep ht hb1
  have hb2 := below_alloc w1 (.cells #[] 9)
  have hT2 := (hT.up hb1).up hb2
  have hO2 : OwN (w1.alloc (.cells #[] 9)) w1.heap.size (.slice (some ⟨w1.heap.size, 0, none⟩) 0 0) [] := ⟨rfl, .inr ⟨w1.heap.size, 0, #[], rfl, Nat.le_refl _, Bk.new w1 9 #[], Nat.le_refl _, by unfold maxLen; omega, rfl, rfl⟩⟩
  obtain ⟨v3, w3, R3, hO3, hb3⟩ := own_names (w1.alloc (.cells #[] 9)) w1.heap.size _ [] hO2 (by have := hb2.size; omega) ao cap l hT2 HN0.out (fun e => by subst e; exact hT.none) (by have := HL.out; simp only [List.length_nil]; omega)
  rw [List.nil_append] at hO3
  obtain ⟨a3, c3, rfl, hN3, _, _⟩ := hO3.names
  have hB3 := hb2.trans hb3
  have hBw3 := Below.thn hb1 hB3
  have hT3 := (hT.up hb1).up hB3
  have ht3 := tab_keep ht1 hB3
  by_cases hz : 0 ≤ z ∧ z ≤ 4096
  · obtain ⟨n, rfl⟩ : ∃ n : Nat, z = n := ⟨z.toNat, by omega⟩
    have hnl : n ≤ 4096 := by omega
    have hf := fresh6_any (cap := c3) l hN3 (fun g off e => hO3.lt g off _ _ (by rw [e])) HS.out HL.out ht3 n (by omega)
    clear hO2 hT2 hO3 hN3 hz hb2 hb3
    go_wp2_with (at_builtin; refine wpList_append_run rfl (.tmp 13) (.tmp 14) 35 rfl rfl _ _ rfl rfl _ _ (show _ = _ from R3) ?_)
    refine hf.mono ?_
    rintro e w4 ⟨⟨v4, j4, rfl, hj4, hO4⟩, hb4⟩
    have hT4 := hT3.up hb4
    have hg := rfresh_any (cap := cap) l hT4 HL.out n hnl
    clear hf R3
    go_wp2_with fail
    refine hg.mono ?_
    rintro e w5 ⟨⟨v5, j5, rfl, hj5, hO5⟩, hb5⟩
    have heq : frN l j5 = frN l j4 := frN_one (hj5.trans hj4.symm)
    rw [heq] at hO5
    have HM : Hid (∀ s ∈ frN l j4, s ∉ l) := fun s h => (frN_mem h).1
    have HD : Hid ((frN l j4).Nodup) := frN_nodup l j4
    have hlen : (frN l j4).length ≤ 4096 := by omega
    obtain ⟨F, hF⟩ : ∃ F, F = frN l j4 := ⟨_, rfl⟩
    rw [← hF] at hO4 hO5 HM HD hlen
    clear hF heq hj4 hj5
    obtain ⟨a4, c4, rfl, hN4, _, _⟩ := hO4.names
    have hcp := hO4.cap _ _ rfl
    obtain ⟨a5, c5, rfl, hN5, _, _⟩ := hO5.names
    have hN4' := hN4.up hb5
    have hT5 := hT4.up hb5
    have hsm := same6_any (c1 := c4) (c2 := c5) hN4' hN5 (by omega)
    rw [decide_eq_true rfl] at hsm
    have HB5 : Hid (Below w.heap.size w w5) := Below.thn (Below.thn hBw3 hb4) hb5
    clear hg
    go_wp2_with fail
    refine hsm.mono ?_
    rintro e w6 ⟨rfl, hb6⟩
    have hN6 := hN4'.up hb6
    have HT6 : Hid (Ns w6 ao l) := hT5.up hb6
    have HN6 : Hid (Ns w6 a4 F) := hN6
    have HB6 : Hid (Below w.heap.size w w6) := Below.thn HB5.out hb6
    clear hsm hb6 hN4 hN4' hN5 hT5 hT4 hO4 hO5 hN6
    go_upto_region 8 with fail
    go_loopw [9] (fun v wr => ∃ k : Nat, k ≤ F.length ∧ v = .int .i64 k ∧ Below w6.heap.size w6 wr) (fun v _ => F.length - (intOf v).toNat)
    case atStart => exact ⟨0, Nat.zero_le _, rfl, Below.refl _ _⟩
    case round =>
      obtain ⟨k, hkn, rfl, hBk⟩ := hrel
      by_cases hlt : k < F.length
      · have hk : F[k]? = some (F[k]) := List.getElem?_eq_getElem hlt
        have hmem : F[k] ∉ l := HM.out _ (List.getElem_mem hlt)
        have htk : F[k] ∉ F.take k := nodup_take HD.out hlt
        obtain ⟨s, hs⟩ : ∃ s, s = F[k] := ⟨_, rfl⟩
        rw [← hs] at hk hmem htk
        obtain ⟨g, off, rfl, c0⟩ := HN6.out k s hk
        have c1 : wr.cell? ⟨g, off + k, none⟩ = some (.string (bs s)) := (hBk.cell (cell_lt c0)).trans c0
        have hd : ∀ q, Below w6.heap.size w6 (wr.drewN q) := fun q => ⟨hBk.os, hBk.tape, hBk.output, hBk.size, hBk.block⟩
        have h1 : Hid (∀ q, Calls Tryz.prog 19 #[.slice ao l.length cap, .string (bs s)] (wr.drewN q) fun e w' => e = .returned (.bool false) ∧ w' = wr.drewN q) := fun q => by
          have := rhas_any (cap := cap) (HT6.out.up (hd q)) (by have := HL.out; omega) s
          rw [decide_eq_false hmem] at this
          exact this
        have h2 : Hid (∀ q, Calls Tryz.prog 19 #[.slice (some ⟨g, off, none⟩) k c4, .string (bs s)] (wr.drewN q) fun e w' => e = .returned (.bool false) ∧ w' = wr.drewN q) := fun q => by
          have := rhas_any (cap := c4) ((HN6.out.take k).up (hd q)) (by rw [List.length_take]; omega) s
          rw [decide_eq_false htk, List.length_take, Nat.min_eq_left hkn] at this
          exact this
        have hkc : (k : Int) ≤ (c4 : Int) := by omega
        clear hk hmem htk hs c0
        go_upto_region 10 with fail
        go_quiet (first | (go_at_call 19; (with_reducible exact Calls.quiet_of_same (h1.out _))) | (go_at_call 19; (with_reducible exact Calls.quiet_of_same (h2.out _))))
        go_wp2_with fail
        go_roundw
        case rel => exact ⟨k + 1, by omega, by go_num, hd _⟩
        case measure => simp [intOf]; omega
      · have hke : k = F.length := by omega
        subst hke
        have HX : Hid (Below w.heap.size w wr) := Below.thn HB6.out hBk
        clear hBk
        go_wp2_with fail
        go_ret
        exact ⟨rfl, HX.out⟩
  · have hz' : z < 0 ∨ 4096 < z := by omega
    have hf := fresh6_no w3 (.slice a3 l.length c3) z hz'
    have hg := rfresh_no w3 (.slice ao l.length cap) z hz'
    have hsm := same6_any (w := w3) (a1 := none) (a2 := none) (c1 := 0) (c2 := 0) (Ns.nil _ _) (Ns.nil _ _) (by decide)
    rw [decide_eq_true rfl] at hsm
    clear hO2 hT2 hO3 hN3 hz hz' hb2 hb3
    go_wp2_with (at_builtin; refine wpList_append_run rfl (.tmp 13) (.tmp 14) 35 rfl rfl _ _ rfl rfl _ _ (show _ = _ from R3) ?_)
    refine hf.mono ?_
    rintro e w4 ⟨rfl, rfl⟩
    clear hf R3
    go_wp2_with fail
    refine hg.mono ?_
    rintro e w5 ⟨rfl, rfl⟩
    clear hg
    go_wp2_with fail
    refine hsm.mono ?_
    rintro e w6 ⟨rfl, hb6⟩
    have HB6 : Hid (Below w.heap.size w w6) := Below.thn hBw3 hb6
    clear hsm hb6 hBw3 hB3 hb1
    go_upto_region 8 with fail
    go_loop [9] (fun v => v = .int .i64 0) (fun _ => 0)
    case atStart => exact rfl
    case round =>
      subst hrel
      go_wp2_with fail
      go_ret
      exact ⟨rfl, HB6.out⟩
end Go.Proofs.YtmfejllhlbnigaaGreatDoor
