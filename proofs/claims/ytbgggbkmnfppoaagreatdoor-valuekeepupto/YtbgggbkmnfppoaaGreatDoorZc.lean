/-
  Texts of the call's own; the walk of the document's words.
-/
import Derived.Test.YtbgggbkmnfppoaaGreatDoorVt
import Derived.Test.YtbgggbkmnfppoaaGreatDoorVq
namespace Go.Proofs.YtbgggbkmnfppoaaGreatDoor
open Go.RowKit
set_option maxRecDepth 100000

def strW (l : List UInt8) : Value := .string (bs l)
/-- Texts of the call's own. -/
def OwS (w : World) (B : Nat) (v : Value) (ws : List (List UInt8)) : Prop := w.ownsRow B 9 1 v ws.length (ws.map strW)
theorem Tryz.infoS : (Tryz.prog.info? 9).map (fun i => (i.zero, i.size, i.bytes)) = some (some (.string ⟨#[]⟩), 1, 16) := by kernel_rfl
theorem Tryz.underSs : Tryz.prog.underlying 74 = some (.slice 9) := by kernel_rfl
theorem own_text (w : World) (B : Nat) (v : Value) (ws : List (List UInt8)) (s : List UInt8) (h : OwS w B v ws) (hB : B ≤ w.heap.size) (hn : ws.length < 8796093022208) :
    ∃ v' w', (Builtin.append_ #[74, 74] 74 #[v, .slice (some ⟨w.heap.size, 0, none⟩) 1 1]).run Tryz.prog (w.alloc (.cells #[.string (bs s)] 9)) = .ok v' w' ∧ OwS w' B v' (ws ++ [s]) ∧ Kt B 9 w w' := by
  obtain ⟨i0, hi, hz⟩ := Option.map_eq_some_iff.1 Tryz.infoS
  simp only [Prod.mk.injEq] at hz
  obtain ⟨v', w', hr, ho, hk⟩ := own_one 9 74 1 16 i0 (.string ⟨#[]⟩) Tryz.underSs hi hz.1 hz.2.1 hz.2.2 rfl (by decide) w B v ws.length _ #[.string (bs s)] h hB rfl (by intro u hu; simp at hu; subst hu; rfl) (by unfold maxLen; omega) (by omega)
  refine ⟨v', w', hr, ?_, hk⟩
  unfold OwS
  rw [List.length_append, List.map_append]
  exact ho

theorem bs_get (l : List UInt8) (k : Nat) (h : k < (bs l).size) : (bs l)[k] = l.getD k 0 := by
  have hl : k < l.length := by rw [bs_size] at h; exact h
  rw [List.getD_eq_getElem?_getD, List.getElem?_eq_getElem hl]
  simp [bs, ByteArray.getElem_eq_getElem_data]

theorem drop_split {l : List UInt8} {f k : Nat} (hf : f ≤ k) (hk : k < l.length) : l.drop f = (l.drop f).take (k - f) ++ l.getD k 0 :: l.drop (k + 1) := by
  conv => lhs; rw [← List.take_append_drop (k - f) (l.drop f)]
  rw [List.drop_drop, show f + (k - f) = k by omega, List.drop_eq_getElem_cons hk, List.getD_eq_getElem?_getD, List.getElem?_eq_getElem hk]
  rfl

theorem take_more {l : List UInt8} {f k : Nat} (hf : f ≤ k) (hk : k < l.length) : (l.drop f).take (k + 1 - f) = (l.drop f).take (k - f) ++ [l.getD k 0] := by
  rw [show k + 1 - f = (k - f) + 1 by omega, List.take_succ_eq_append_getElem (by rw [List.length_drop]; omega), List.getD_eq_getElem?_getD, List.getElem?_eq_getElem hk]
  simp only [List.getElem_drop, Option.getD_some]
  congr 2
  congr 1
  omega

/-- What the loop over a text's bytes has come to. -/
structure WdI (l : List UInt8) (ws : List (List UInt8)) (f k : Nat) : Prop where
  fk : f ≤ k
  kl : k ≤ l.length + 1
  en : k = l.length + 1 → f = l.length + 1
  nb : ∀ b ∈ (l.drop f).take (k - f), b ≠ 32
  wd : wordsP l = ws ++ wordsP (l.drop f)
  ln : ws.length ≤ f

set_option maxHeartbeats 2000000 in
theorem words_any (l : List UInt8) (hl : l.length ≤ 2000000000000) (w : World) :
    Calls Tryz.prog 34 #[.string (bs l)] w fun e w' => (∃ v, e = .returned v ∧ OwS w' w.heap.size v (wordsP l)) ∧ Below w.heap.size w w' := by
  have hsz := bs_size l
  obtain ⟨n, hn⟩ : ∃ n, Hid (n = l.length) := ⟨_, rfl⟩
  rw [← hn.out] at hl hsz
  have hsi : ((bs l).size : Int) = (n : Int) := by rw [hsz]
  obtain ⟨Q, hQ⟩ : ∃ Q : Ending → World → Prop, Hid (Q = fun e w' => (∃ v, e = .returned v ∧ OwS w' w.heap.size v (wordsP l)) ∧ Below w.heap.size w w') := ⟨_, rfl⟩
  rw [← hQ.out]
  go_enter Tryz.func34, Tryz.ntmps34
  go_wp2_with fail
  go_loopw [3, 4, 5] (fun v fv iv wr => ∃ (f k : Nat) (ws : List (List UInt8)), fv = .int .i64 f ∧ iv = .int .i64 k ∧ k ≤ n + 1 ∧ Hid (WdI l ws f k) ∧ Hid (OwS wr w.heap.size v ws) ∧ Below w.heap.size w wr) (fun _ _ iv _ => n + 1 - (RowKit.intOf iv).toNat)
  case atStart => exact ⟨0, 0, [], rfl, rfl, Nat.zero_le _, ⟨Nat.le_refl _, Nat.zero_le _, fun e => by omega, by simp, by simp, Nat.le_refl _⟩, ⟨rfl, .inl ⟨rfl, rfl⟩⟩, Below.refl _ _⟩
  case round =>
    obtain ⟨f, k, ws, rfl, rfl, hkn, hI, hO, hB⟩ := hrel
    have hI2 := hI.out
    have hfk := hI2.fk
    have hwl := hI2.ln
    by_cases hkl : k < n
    · have hkl2 : k < l.length := by rw [← hn.out]; exact hkl
      have hks : k < (bs l).size := by rw [hsz]; exact hkl
      have hgc := bs_get l k hks
      have hds := drop_split hfk hkl2
      have htm := take_more hfk hkl2
      by_cases hc : l.getD k 0 = 32
      · -- a blank
        have h32 : (((bs l)[k].toNat : Int) == 32) = true := by rw [hgc, hc]; rfl
        have hb1 : (k : Int) < ((bs l).size : Int) := by omega
        rw [hc] at hds
        have hwd : wordsP l = ws ++ ((if (l.drop f).take (k - f) = [] then [] else [(l.drop f).take (k - f)]) ++ wordsP (l.drop (k + 1))) := by
          rw [hI2.wd]
          conv => lhs; rw [hds]
          rw [wordsP_cut _ _ hI2.nb]
        by_cases hkf : f < k
        · have hne : (l.drop f).take (k - f) ≠ [] := by
            intro e
            have := congrArg List.length e
            rw [List.length_take, List.length_drop] at this
            simp at this
            omega
          rw [if_neg hne] at hwd
          have hx : (bs l).extract f k = bs ((l.drop f).take (k - f)) := bs_extract l f k
          obtain ⟨v9, w9, r9, o9, k9⟩ := own_text _ _ _ ws ((l.drop f).take (k - f)) hO.out hB.size (by omega)
          have R9 : Hid (_ = _) := r9
          have hI9 : Hid (WdI l (ws ++ [(l.drop f).take (k - f)]) (k + 1) (k + 1)) := ⟨Nat.le_refl _, by omega, fun e => by omega, by simp, by rw [hwd]; simp, by rw [List.length_append]; simp; omega⟩
          have g1 : (f : Int) < (k : Int) := by omega
          have g2 : (f : Int) ≤ (k : Int) := by omega
          have g3 : (k : Int) ≤ ((bs l).size : Int) := by omega
          have g4 : f ≤ k := hfk
          have g5 : k ≤ (bs l).size := by omega
          have b9 := hB.trans k9.low
          clear hwd hds htm hgc hc hI hI2 hne r9 hO
          generalize (l.drop f).take (k - f) = pc at *
          generalize hsl : bs l = sl at *
          go_wp2_with (at_builtin; refine wpList_append_run rfl (.tmp 25) (.tmp 30) 74 rfl rfl _ _ rfl rfl _ _ (show _ = _ from R9) ?_)
          go_roundw
          case rel => exact ⟨k + 1, k + 1, ws ++ [pc], by go_num, by go_num, by omega, hI9, o9, b9⟩
          case measure => simp [RowKit.intOf]; omega
        · have hfe : f = k := by omega
          have hne : (l.drop f).take (k - f) = [] := by rw [hfe, Nat.sub_self, List.take_zero]
          rw [if_pos hne] at hwd
          have hI9 : Hid (WdI l ws (k + 1) (k + 1)) := ⟨Nat.le_refl _, by omega, fun e => by omega, by simp, by rw [hwd]; simp, by omega⟩
          have g1 : ¬ (f : Int) < (k : Int) := by omega
          clear hwd hds htm hgc hc hI hI2 hne hfe
          generalize hsl : bs l = sl at *
          go_wp2_with fail
          go_roundw
          case rel => exact ⟨k + 1, k + 1, ws, by go_num, by go_num, by omega, hI9, hO, hB⟩
          case measure => simp [RowKit.intOf]; omega
      · have h32 : (((bs l)[k].toNat : Int) == 32) = false := by
          rw [hgc, beq_eq_false_iff_ne]
          intro e
          apply hc
          apply UInt8.toNat.inj
          show _ = 32
          omega
        have hb1 : (k : Int) < ((bs l).size : Int) := by omega
        have hI9 : Hid (WdI l ws f (k + 1)) := ⟨by omega, by omega, fun e => by omega, by
          intro b hb
          rw [htm] at hb
          rcases List.mem_append.1 hb with h | h
          · exact hI2.nb b h
          · rw [List.mem_singleton.1 h]; exact hc, hI2.wd, hwl⟩
        clear hds htm hgc hc hI hI2
        generalize hsl : bs l = sl at *
        go_wp2_with fail
        go_roundw
        case rel => exact ⟨f, k + 1, ws, by go_num, by go_num, by omega, hI9, hO, hB⟩
        case measure => simp [RowKit.intOf]; omega
    · by_cases hke : k = n
      · subst hke
        have hkl2 : k = l.length := hn.out
        have hb1 : ¬ (k : Int) < ((bs l).size : Int) := by omega
        have hb2 : (k : Int) ≤ ((bs l).size : Int) := by omega
        have htk : (l.drop f).take (k - f) = l.drop f := List.take_of_length_le (by rw [List.length_drop]; omega)
        have hnb := hI2.nb
        rw [htk] at hnb
        have hwd := hI2.wd
        rw [wordsP_end _ hnb] at hwd
        have hz : l.drop (k + 1) = [] := List.drop_of_length_le (by omega)
        by_cases hkf : f < k
        · have hne : l.drop f ≠ [] := by
            intro e
            have := congrArg List.length e
            rw [List.length_drop] at this
            simp at this
            omega
          rw [if_neg hne] at hwd
          have hx : (bs l).extract f k = bs (l.drop f) := by rw [bs_extract, htk]
          obtain ⟨v9, w9, r9, o9, k9⟩ := own_text _ _ _ ws (l.drop f) hO.out hB.size (by omega)
          have R9 : Hid (_ = _) := r9
          have hI9 : Hid (WdI l (ws ++ [l.drop f]) (k + 1) (k + 1)) := ⟨Nat.le_refl _, by omega, fun e => e, by simp, by rw [hwd, hz, wordsP_nil]; simp, by rw [List.length_append]; simp; omega⟩
          have g1 : (f : Int) < (k : Int) := by omega
          have g2 : (f : Int) ≤ (k : Int) := by omega
          have g4 : f ≤ k := hfk
          have g5 : k ≤ (bs l).size := by omega
          have b9 := hB.trans k9.low
          clear hwd hI hI2 hne r9 hO hnb htk hz hkl2
          generalize l.drop f = pc at *
          generalize hsl : bs l = sl at *
          go_wp2_with (at_builtin; refine wpList_append_run rfl (.tmp 25) (.tmp 30) 74 rfl rfl _ _ rfl rfl _ _ (show _ = _ from R9) ?_)
          go_roundw
          case rel => exact ⟨k + 1, k + 1, ws ++ [pc], by go_num, by go_num, by omega, hI9, o9, b9⟩
          case measure => simp [RowKit.intOf]
        · have hfe : f = k := by omega
          have hne : l.drop f = [] := List.drop_of_length_le (by omega)
          rw [if_pos hne] at hwd
          have hI9 : Hid (WdI l ws (k + 1) (k + 1)) := ⟨Nat.le_refl _, by omega, fun e => e, by simp, by rw [hwd, hz, wordsP_nil], by omega⟩
          have g1 : ¬ (f : Int) < (k : Int) := by omega
          clear hwd hI hI2 hne hfe hnb htk hz hkl2
          generalize hsl : bs l = sl at *
          go_wp2_with fail
          go_roundw
          case rel => exact ⟨k + 1, k + 1, ws, by go_num, by go_num, by omega, hI9, hO, hB⟩
          case measure => simp [RowKit.intOf]
      · have hk1 : k = l.length + 1 := by rw [← hn.out]; omega
        have hb2 : ¬ (k : Int) ≤ ((bs l).size : Int) := by omega
        have hb3 : ¬ (k : Int) ≤ (n : Int) := by omega
        have hb4 : ¬ k ≤ n := by omega
        have hwd := hI2.wd
        rw [hI2.en hk1, List.drop_of_length_le (by omega), wordsP_nil, List.append_nil] at hwd
        have KEY : Hid (∀ v, v = u3 → Q (.returned v) wr) := by
          intro v hv
          rw [hQ.out]
          refine ⟨⟨v, rfl, ?_⟩, hB⟩
          rw [hwd, hv]
          exact hO.out
        clear hwd hI hI2 hQ hk1
        generalize hsl : bs l = sl at *
        go_wp2_with fail
        exact KEY.out _ rfl
end Go.Proofs.YtbgggbkmnfppoaaGreatDoor
