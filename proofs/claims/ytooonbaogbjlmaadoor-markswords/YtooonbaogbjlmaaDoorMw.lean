/-
  The walks of Words of marks and of MarksWords.
-/
import Derived.Test.YtooonbaogbjlmaaDoorMj
import Derived.Deep.RegionHeld2
import Derived.BigQuiet
namespace Go.Proofs.YtooonbaogbjlmaaDoor
open Go.RowKit
set_option maxRecDepth 100000

theorem belowN {B : Nat} {a w : World} (h : Below B a w) (q : Nat) : Below B a (w.drewN q) := ⟨h.os, h.tape, h.output, h.size, h.block⟩

/-- Words laid in a block, from the place k on. -/
structure Wk (w : World) (b k : Nat) : Prop where
  cell : ∀ i, k ≤ i → i < 19 → w.cell? ⟨b, i, none⟩ = some (.string (bs (wordsL.getD i [])))
  free : w.there b 0 19

theorem Wk.lt {w : World} {b k : Nat} (h : Wk w b k) : b < w.heap.size := by
  have := (h.free 0 (by omega)).1
  cases hc : w.cell? ⟨b, 0 + 0, none⟩ with
  | none => rw [hc] at this; cases this
  | some v => exact cell_lt hc

theorem Wk.to {w w' : World} {b k B : Nat} (h : Wk w b k) (hb : Below B w w') (hl : b < B) : Wk w' b k := by
  refine ⟨fun i hk hi => (hb.cell hl).trans (h.cell i hk hi), fun j hj => ?_⟩
  have := h.free j hj
  refine ⟨?_, ?_⟩
  · rw [hb.cell hl]; exact this.1
  · rw [hb.frozen hl]; exact this.2

theorem there_zero (w : World) (cs : Array Value) (t : TypeId) (n : Nat) (hn : n ≤ cs.size) : (w.alloc (.cells cs t)).there w.heap.size 0 n := by
  intro j hj
  refine ⟨?_, ?_⟩
  · rw [Nat.zero_add, cell_of_row _ _ j _ _ _ (heap_alloc_new w _)]
    simp [show j < cs.size by omega]
  · exact World.frozen?_alloc_new _ _ _ _

abbrev z19 : Array Value := #[.string ⟨#[]⟩, .string ⟨#[]⟩, .string ⟨#[]⟩, .string ⟨#[]⟩, .string ⟨#[]⟩, .string ⟨#[]⟩, .string ⟨#[]⟩, .string ⟨#[]⟩, .string ⟨#[]⟩, .string ⟨#[]⟩, .string ⟨#[]⟩, .string ⟨#[]⟩, .string ⟨#[]⟩, .string ⟨#[]⟩, .string ⟨#[]⟩, .string ⟨#[]⟩, .string ⟨#[]⟩, .string ⟨#[]⟩, .string ⟨#[]⟩]

theorem Wk.set {w : World} {b k : Nat} (h : Wk w b k) (v : Value) : Wk (w.setCell ⟨b, k, none⟩ v) b (k + 1) := by
  refine ⟨fun i hk hi => ?_, World.there_setCells h.free b k [v]⟩
  have := World.cell?_setCells_out b [v] k w ⟨b, i, none⟩ (fun _ _ => by simp; omega)
  exact this.trans (h.cell i (by omega) hi)

theorem Wk.drewN {w : World} {b k : Nat} (h : Wk w b k) (q : Nat) : Wk (w.drewN q) b k := ⟨h.cell, h.free⟩
theorem Gl.drewN {w : World} (h : Gl w) (q : Nat) : Gl (w.drewN q) := ⟨h.wd, h.sg⟩
theorem Wb.oth {w w' : World} {b g : Nat} (h : Wb w b) (v : Value) (k : Nat) (hn : b ≠ g) (e : w' = w.setCell ⟨g, k, none⟩ v) : Wb w' b := by
  subst e; unfold Wb; rw [Below.heap_setCell _ _ _ _ hn]; exact h

set_option maxHeartbeats 1000000 in
theorem words_any (w : World) (hG : Gl w) :
    Calls Tryd.prog 7 #[] w fun e w' => e = .returned (.slice (some ⟨w.heap.size, 0, none⟩) 19 19) ∧ Wk w' w.heap.size 0 ∧ Below w.heap.size w w' := by
  have hR := hG.wdR
  have hT := there_zero w z19 41 (List.map strV wordsL).toArray.size (by decide)
  clear hG
  have hst := run_storeCells_cells (P := Tryd.prog) w.heap.size 0 (List.map strV wordsL) 0 (w.alloc (.cells #[.string ⟨#[]⟩, .string ⟨#[]⟩, .string ⟨#[]⟩, .string ⟨#[]⟩, .string ⟨#[]⟩, .string ⟨#[]⟩, .string ⟨#[]⟩, .string ⟨#[]⟩, .string ⟨#[]⟩, .string ⟨#[]⟩, .string ⟨#[]⟩, .string ⟨#[]⟩, .string ⟨#[]⟩, .string ⟨#[]⟩, .string ⟨#[]⟩, .string ⟨#[]⟩, .string ⟨#[]⟩, .string ⟨#[]⟩, .string ⟨#[]⟩] 41)) (fun j hj => (hT j (by simpa using hj)).1) (fun j hj => (hT j (by simpa using hj)).2)
    (fun v hv => by rw [List.mem_map] at hv; obtain ⟨x, _, rfl⟩ := hv; rfl)
  obtain ⟨W, hW⟩ : ∃ W, W = (w.alloc (.cells z19 41)).setCells w.heap.size 0 (List.map strV wordsL) := ⟨_, rfl⟩
  have hW1 : Wk W w.heap.size 0 := by
    rw [hW]
    refine ⟨fun i _ hi => ?_, World.there_setCells hT _ _ _⟩
    have := World.rangeAt_setCells_same (w.alloc (.cells z19 41)) w.heap.size 0 (List.map strV wordsL) hT i (strV (wordsL.getD i [])) (by
      have hi' : i < wordsL.length := hi
      simp [List.getD_eq_getElem?_getD, hi'])
    rw [Nat.zero_add] at this
    exact this
  have hW2 : Below w.heap.size w W := by
    have : ∀ (xs : List Value) (o : Nat) (v : World), Below w.heap.size w v → Below w.heap.size w (v.setCells w.heap.size o xs) := by
      intro xs
      induction xs with
      | nil => intro o v h; exact h
      | cons x xs ih => intro o v h; exact ih _ _ (h.setCell (Nat.le_refl _) x)
    rw [hW]
    exact this _ _ _ (below_alloc _ _)
  have hst2 : (storeCells ⟨w.heap.size, 0, none⟩ (List.map strV wordsL)).run Tryd.prog (w.alloc (.cells #[.string ⟨#[]⟩, .string ⟨#[]⟩, .string ⟨#[]⟩, .string ⟨#[]⟩, .string ⟨#[]⟩, .string ⟨#[]⟩, .string ⟨#[]⟩, .string ⟨#[]⟩, .string ⟨#[]⟩, .string ⟨#[]⟩, .string ⟨#[]⟩, .string ⟨#[]⟩, .string ⟨#[]⟩, .string ⟨#[]⟩, .string ⟨#[]⟩, .string ⟨#[]⟩, .string ⟨#[]⟩, .string ⟨#[]⟩, .string ⟨#[]⟩] 41)) = .ok () W := by rw [hW]; exact hst
  have hwl : wordsL.length = 19 := rfl
  clear hst hW hT
  go_enter Tryd.func7, Tryd.ntmps7
  go_wp2_with (refine wpList_load_mid rfl 41 (.global 0) rfl 0 0 rfl (wordsL.map strV) _ hR Tryd.arrW rfl Tryd.arrWs ?_)
  go_ret
  exact ⟨rfl, hW1, hW2⟩

set_option maxHeartbeats 4000000 in
theorem wordsLaw_any (l : List UInt8) (w : World) (hG : Gl w) (hE : Env w) :
    Calls Tryd.prog 3 #[.string (bs l)] w fun e w' => e = .returned (.bool true) ∧ Below w.heap.size w w' := by
  go_enter Tryd.func3, Tryd.ntmps3
  go_wp2_with (first
    | (go_at_call 6; refine (awake_any _ hG hE).mono ?_; rintro e w1 ⟨rfl, hB1⟩)
    | (go_at_call 7; refine (words_any w1 (hG.up hB1)).mono ?_; rintro e w2 ⟨rfl, hk2, hb2⟩)
    | (go_at_call 8; refine (refWords_any w2).mono ?_; rintro e w3 ⟨rfl, hw3, hb3⟩))
  obtain ⟨g, hg⟩ : ∃ g, g = w1.heap.size := ⟨_, rfl⟩
  obtain ⟨g3, hg3⟩ : ∃ g3, g3 = w2.heap.size := ⟨_, rfl⟩
  have hgg : g < g3 := by rw [hg3, hg]; exact hk2.lt
  have hgw : w.heap.size ≤ g := by rw [hg]; exact hB1.size
  have hk3 := hk2.to hb3 hk2.lt
  have hB3 := Below.thn (Below.thn hB1 hb2) hb3
  rw [← hg] at hk3 ⊢
  rw [← hg3] at hw3 ⊢
  clear hk2 hb2 hb3 hg hg3 hB1
  go_loopw [5] (fun i wr => ∃ k : Nat, k ≤ 19 ∧ i = .int .i64 k ∧ Wk wr g k ∧ Wb wr g3 ∧ Below w.heap.size w wr) (fun i _ => 19 - (intOf i).toNat)
  case atStart => exact ⟨0, Nat.zero_le _, rfl, hk3, hw3, hB3⟩
  case round =>
    clear hk3 hw3 hB3
    obtain ⟨k, hk, rfl, hkr, hwr, hBr⟩ := hrel
    have hGr := hG.up hBr
    by_cases hlt : k < 19
    · obtain ⟨x, hx⟩ : ∃ x, x = wordsL.getD k [] := ⟨_, rfl⟩
      have hxw : isWd x = true := by
        rw [hx]
        have : ∀ j, j < 19 → isWd (wordsL.getD j []) = true := by decide
        exact this k hlt
      have ha := hkr.cell k (Nat.le_refl _) hlt
      have hb := hwr.cell k hlt
      have hf := (hkr.free k hlt).2
      rw [Nat.zero_add] at hf
      rw [← hx] at ha hb
      have hrs := fun q => reserved_any x (wr.drewN q) (hGr.drewN q)
      rw [hxw] at hrs
      have h1 : ((bs x).toList == (bs x).toList) = true := by simp
      clear hx hxw
      go_wp2
      go_quiet (first | (go_at_call 9; refine Calls.quiet_of_same (hrs _)))
      go_wp2
      go_roundw
      case rel => exact ⟨k + 1, by omega, by go_num, (hkr.drewN _).set _, Wb.oth (w := wr.drewN _) (g := g) hwr _ k (by omega) rfl, (belowN hBr _).setCell hgw _⟩
      case measure => simp [intOf]; omega
    · have hke : k = 19 := by omega
      subst hke
      have h0 := hwr.cell 0 (by omega)
      have hlw := hwr.lt
      clear hkr
      go_wp2_with (go_at_call 7; refine (words_any wr hGr).mono ?_; rintro e w5 ⟨rfl, hk5, hb5⟩)
      have h05 := (hb5.cell hlw).trans h0
      have h5 := hk5.cell 0 (Nat.zero_le _) (by omega)
      have hB5 := Below.thn hBr hb5
      have h1 : ((bs (wordsL.getD 0 [])).toList == (bs (wordsL.getD 0 [])).toList) = true := by simp
      have hG5 := hGr.up hb5
      have hr5 := fun W (h : Gl W) => reserved_any l W h
      have hl5 : wr.heap.size < w5.heap.size := hk5.lt
      have hl3 : g3 < w5.heap.size := Nat.lt_of_lt_of_le hlw hb5.size
      have kp : ∀ W, Below w5.heap.size w5 W → W.cell? ⟨wr.heap.size, 0, none⟩ = some (.string (bs (wordsL.getD 0 []))) ∧ W.cell? ⟨g3, 0, none⟩ = some (.string (bs (wordsL.getD 0 []))) := fun W hW => ⟨(hW.cell hl5).trans h5, (hW.cell hl3).trans h05⟩
      have KP : Hid _ := kp
      have HD : Hid (Below w5.heap.size w5 w5.drew) := (Below.refl _ w5).drew
      have h2 : (isWd l == isWd l) = true := by simp
      clear hk5 hb5 hGr hwr kp h5 h05 h0
      go_region_held2 (fun W => W.cell? ⟨wr.heap.size, 0, none⟩ = some (.string (bs (wordsL.getD 0 []))) ∧ W.cell? ⟨g3, 0, none⟩ = some (.string (bs (wordsL.getD 0 []))))
        (first | exact (show ∀ W, _ from KP) _ (show Below _ _ _ from HD) | exact (show ∀ W, _ from KP) _ (Below.thn (show Below _ _ _ from HD) hb6)) (first
        | (go_at_call 9; refine (reserved_any l _ (by first | exact hG5.up (show Below _ _ _ from HD) | exact hG5.up (Below.thn (show Below _ _ _ from HD) hb6))).mono ?_; rintro e w7 ⟨rfl, hw7⟩; rw [hw7]; clear hw7)
        | (go_at_call 10; refine (refReserved_any l _).mono ?_; rintro e w6 ⟨rfl, hb6⟩))
      all_goals
        go_wp2
        go_ret
        exact ⟨rfl, Below.thn hB5 (Below.thn (show Below _ _ _ from HD) hb6)⟩
end Go.Proofs.YtooonbaogbjlmaaDoor
