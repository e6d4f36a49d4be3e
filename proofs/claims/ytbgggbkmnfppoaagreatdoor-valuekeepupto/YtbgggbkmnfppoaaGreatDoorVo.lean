/-
  The walks of the small texts: strings.Cut at a blank, skipBlanks, endOfFirst.
-/
import Derived.Test.YtbgggbkmnfppoaaGreatDoorVm
import Derived.Test.YtbgggbkmnfppoaaGreatDoorVb
namespace Go.Proofs.YtbgggbkmnfppoaaGreatDoor
open Go.RowKit
set_option maxRecDepth 100000

theorem bs_mk (s : List UInt8) : (⟨s.toArray⟩ : ByteArray) = bs s := rfl

/-- What is ahead of the first blank, what is behind it, and whether there is one. -/
def cutA (l : List UInt8) : List UInt8 := if 0 ≤ Lib.indexByte l 32 then l.take (Lib.indexByte l 32).toNat else l
def cutZ (l : List UInt8) : List UInt8 := if 0 ≤ Lib.indexByte l 32 then l.drop ((Lib.indexByte l 32).toNat + 1) else []
def cutQ (l : List UInt8) : Bool := decide (0 ≤ Lib.indexByte l 32)

theorem cut_splitB (l : List UInt8) : splitB l = if cutQ l then cutA l :: splitB (cutZ l) else [cutA l] := by
  unfold cutQ cutA cutZ
  by_cases h : 0 ≤ Lib.indexByte l 32
  · simp only [h, decide_true, if_true]
    obtain ⟨a, t, e, ha, hi⟩ := idx_split h
    rw [hi]
    have e1 : l.take (a.length : Int).toNat = a := by rw [e]; simp
    have e2 : l.drop ((a.length : Int).toNat + 1) = t := by
      rw [e]
      rw [show a ++ 32 :: t = (a ++ [32]) ++ t by simp]
      rw [List.drop_left' (by simp)]
    rw [e1, e2, e]
    exact splitB_head a ha t
  · simp only [h, decide_false, if_false]
    exact splitB_one l (idx_none h)

theorem cutZ_len {l : List UInt8} (h : cutQ l = true) : (cutZ l).length < l.length := by
  unfold cutQ at h
  have h' := of_decide_eq_true h
  unfold cutZ
  rw [if_pos h', List.length_drop]
  rcases idx_lt l 32 with k | k <;> omega

set_option maxHeartbeats 1000000 in
theorem cutL_any (l : List UInt8) (hl : l.length ≤ 281474976710656) (w : World) :
    Calls Tryz.prog 65 #[.string (bs l), .string ⟨#[32]⟩] w fun e w' => e = .returned (.tuple #[.string (bs (cutA l)), .string (bs (cutZ l)), .bool (cutQ l)]) ∧ Below w.heap.size w w' := by
  have hi := fun W => Tryz.stringslite_Index_one (bs l) 32 W
  rw [bs_list] at hi
  have hs := bs_size l
  unfold cutA cutZ cutQ
  have hge := Lib.indexByte_ge l 32
  by_cases h : 0 ≤ Lib.indexByte l 32
  · obtain ⟨i, hii⟩ : ∃ i : Nat, Lib.indexByte l 32 = i := ⟨(Lib.indexByte l 32).toNat, by omega⟩
    have hlt : i < l.length := by rcases idx_lt l 32 with k | k <;> omega
    rw [hii] at hi ⊢
    have hd : decide ((0 : Int) ≤ (i : Int)) = true := by simp
    have hx1 : (bs l).extract 0 i = bs (l.take i) := by rw [bs_extract]; simp
    have hx2 : (bs l).extract (i + 1) (bs l).size = bs (l.drop (i + 1)) := by rw [bs_extract, hs, List.take_of_length_le (by simp)]
    rw [if_pos (by omega), if_pos (by omega), hd, Int.toNat_natCast]
    have h1 : (i : Int) ≤ ((bs l).size : Int) := by rw [hs]; omega
    have h2 : (i : Int) + 1 ≤ ((bs l).size : Int) := by rw [hs]; omega
    have h3 : (0 : Int) ≤ (i : Int) := by omega
    have h4 : (0 : Int) ≤ (i : Int) + 1 := by omega
    have h5 : i ≤ (bs l).size := by rw [hs]; omega
    have h6 : i + 1 ≤ (bs l).size := by rw [hs]; omega
    have h7 : (bs l).size ≤ 281474976710656 := by rw [hs]; exact hl
    have HX : Hid ((bs l).extract 0 i = bs (l.take i) ∧ (bs l).extract (i + 1) (bs l).size = bs (l.drop (i + 1))) := ⟨hx1, hx2⟩
    rw [← hx1, ← hx2]
    clear hx1 hx2 hge h hii hl hs hlt hd HX
    generalize bs l = s at *
    go_enter Tryz.func65, Tryz.ntmps65
    go_wp2_with fail
    refine (hi _).mono ?_
    rintro e w1 ⟨rfl, hw1⟩
    rw [hw1]
    clear hw1
    go_wp2_with fail
    go_region
    all_goals
      go_wp2_with fail
      go_ret3
      exact ⟨rfl, (Below.refl _ _).drew⟩
  · rw [if_neg h, if_neg h, decide_eq_false h]
    have h' : ¬ (0 : Int) ≤ Lib.indexByte l 32 := h
    generalize Lib.indexByte l 32 = i at *
    generalize bs l = s at *
    go_enter Tryz.func65, Tryz.ntmps65
    go_wp2_with fail
    refine (hi _).mono ?_
    rintro e w1 ⟨rfl, hw1⟩
    rw [hw1]
    clear hw1
    go_wp2_with fail
    go_ret3
    exact ⟨rfl, Below.refl _ _⟩

theorem cut_any1 (l : List UInt8) (hl : l.length ≤ 281474976710656) (w : World) :
    Calls Tryz.prog 50 #[.string (bs l), .string ⟨#[32]⟩] w fun e w' => e = .returned (.tuple #[.string (bs (cutA l)), .string (bs (cutZ l)), .bool (cutQ l)]) ∧ Below w.heap.size w w' := by
  have h := cutL_any l hl w
  generalize bs (cutA l) = s1 at *
  generalize bs (cutZ l) = s2 at *
  generalize cutQ l = q at *
  go_enter Tryz.func50, Tryz.ntmps50
  go_wp2_with fail
  refine h.mono ?_
  rintro e w1 ⟨rfl, hb⟩
  go_wp2
  go_ret3
  exact ⟨rfl, hb⟩

theorem skip_any (l : List UInt8) (w : World) :
    Calls Tryz.prog 35 #[.string (bs l)] w fun e w' => e = .returned (.string (bs (skp l))) ∧ w' = w := by
  have h := Tryz.strings_TrimLeft_one (bs l) 32 (by decide) w
  rw [bs_list] at h
  unfold skp
  go_enter Tryz.func35, Tryz.ntmps35
  go_wp2_with fail
  refine h.mono ?_
  rintro e w1 ⟨rfl, hw1⟩
  rw [hw1]
  go_wp2
  go_ret
  exact ⟨rfl, rfl⟩

set_option maxHeartbeats 1000000 in
theorem eof_any (l : List UInt8) (hl : l.length ≤ 281474976710656) (w : World) :
    Calls Tryz.prog 36 #[.string (bs l)] w fun e w' => e = .returned (.int .i64 (tokE l : Nat)) ∧ w' = w := by
  have hp := fun W => Tryz.strings_HasPrefix (bs l) ⟨#[91]⟩ W
  have h1 := fun W => Tryz.strings_Index_one (bs l) 32 W
  have h2 := fun W => Tryz.strings_Index_one (bs l) 93 W
  rw [bs_list] at hp h1 h2
  rw [show (⟨#[91]⟩ : ByteArray).data.toList = [91] from rfl] at hp
  have hs := bs_size l
  have hT : Hid (((tokE l : Nat) : Int) = if Lib.hasPrefix l [91] then (if 0 ≤ Lib.indexByte l 93 then Lib.indexByte l 93 + 1 else ((bs l).size : Int)) else (if 0 ≤ Lib.indexByte l 32 then Lib.indexByte l 32 else ((bs l).size : Int))) := by
    show _ = _
    rw [hs]
    unfold tokE
    split
    · split <;> omega
    · split <;> omega
  have g1 := idx_lt l 93
  have g2 := Lib.indexByte_ge l 93
  have g3 : Lib.indexByte l 93 ≤ 281474976710656 := by omega
  rw [hT.out]
  clear hT hs g1
  generalize Lib.hasPrefix l [91] = p at *
  generalize Lib.indexByte l 93 = i at *
  generalize Lib.indexByte l 32 = j at *
  generalize bs l = s at *
  cases p
  · by_cases hj : 0 ≤ j
    · rw [if_neg Bool.false_ne_true, if_pos hj]
      go_enter Tryz.func36, Tryz.ntmps36
      go_wp2_with fail
      refine (hp _).mono ?_
      rintro e w1 ⟨rfl, hw1⟩
      rw [hw1]
      clear hw1
      go_wp2_with fail
      refine (h1 _).mono ?_
      rintro e w1 ⟨rfl, hw1⟩
      rw [hw1]
      clear hw1
      go_wp2
      go_ret
      exact ⟨rfl, rfl⟩
    · rw [if_neg Bool.false_ne_true, if_neg hj]
      go_enter Tryz.func36, Tryz.ntmps36
      go_wp2_with fail
      refine (hp _).mono ?_
      rintro e w1 ⟨rfl, hw1⟩
      rw [hw1]
      clear hw1
      go_wp2_with fail
      refine (h1 _).mono ?_
      rintro e w1 ⟨rfl, hw1⟩
      rw [hw1]
      clear hw1
      go_wp2
      go_ret
      exact ⟨rfl, rfl⟩
  · by_cases hi : 0 ≤ i
    · rw [if_pos rfl, if_pos hi]
      go_enter Tryz.func36, Tryz.ntmps36
      go_wp2_with fail
      refine (hp _).mono ?_
      rintro e w1 ⟨rfl, hw1⟩
      rw [hw1]
      clear hw1
      go_wp2_with fail
      refine (h2 _).mono ?_
      rintro e w1 ⟨rfl, hw1⟩
      rw [hw1]
      clear hw1
      go_wp2
      go_ret
      exact ⟨rfl, rfl⟩
    · rw [if_pos rfl, if_neg hi]
      go_enter Tryz.func36, Tryz.ntmps36
      go_wp2_with fail
      refine (hp _).mono ?_
      rintro e w1 ⟨rfl, hw1⟩
      rw [hw1]
      clear hw1
      go_wp2_with fail
      refine (h2 _).mono ?_
      rintro e w1 ⟨rfl, hw1⟩
      rw [hw1]
      clear hw1
      go_wp2
      go_ret
      exact ⟨rfl, rfl⟩
end Go.Proofs.YtbgggbkmnfppoaaGreatDoor
