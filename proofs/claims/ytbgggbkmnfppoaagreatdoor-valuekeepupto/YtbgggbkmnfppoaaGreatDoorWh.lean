/-
  The walk of the document's reader of whole numbers.
-/
import Derived.Test.YtbgggbkmnfppoaaGreatDoorTw
namespace Go.Proofs.YtbgggbkmnfppoaaGreatDoor
open Go.RowKit
open Go.Lib
set_option maxRecDepth 100000

/-- Is the byte a digit? -/
def digB (b : UInt8) : Bool := decide (48 ≤ b.toNat) && decide (b.toNat ≤ 57)

/-- The number that the digits at the front spell, up to the bound, behind what was read. -/
def accW (acc : Int) : List UInt8 → Int
  | [] => acc
  | b :: r => if digB b then accW (min (10 * acc + ((b.toNat : Int) - 48)) 16777217) r else acc
/-- How many digits stand at the front. -/
def lenW : List UInt8 → Nat
  | [] => 0
  | b :: r => if digB b then lenW r + 1 else 0

theorem accW_bound (l : List UInt8) : ∀ acc, 0 ≤ acc → acc ≤ 16777217 → 0 ≤ accW acc l ∧ accW acc l ≤ 16777217 := by
  induction l with
  | nil => intro acc h0 h1; exact ⟨h0, h1⟩
  | cons b r ih =>
    intro acc h0 h1
    simp only [accW]
    split
    · rename_i hd
      unfold digB at hd
      simp at hd
      exact ih _ (by omega) (by omega)
    · exact ⟨h0, h1⟩

theorem ret_pair {a b c d : Int} (h : a = c) (k : b = d) : Ending.returned (.tuple #[.int .i64 a, .int .i64 b]) = .returned (.tuple #[.int .i64 c, .int .i64 d]) := by rw [h, k]

/-- The number at the front of a text behind its sign, and how many bytes it takes with the sign. -/
def wV (sg : Int) (l : List UInt8) : Int := if lenW l = 0 then 0 else sg * accW 0 l
def wK (i : Nat) (l : List UInt8) : Int := if lenW l = 0 then 0 else (lenW l : Int) + i

theorem drop_cons (s : ByteArray) (k : Nat) (h : k < s.size) : s.data.toList.drop k = s[k] :: s.data.toList.drop (k + 1) := by
  rw [List.drop_eq_getElem_cons (by simpa using h)]; rfl

set_option maxHeartbeats 2000000 in
theorem whole_neg (s : ByteArray) (hs : s.size ≤ 281474976710656) (h0 : 0 < s.size) (h45 : ((s[0].toNat : Int) == 45) = true) (T : List UInt8) (HT : Hid (s.data.toList.drop 1 = T)) (w : World) :
    Calls Tryz.prog 54 #[.string s] w fun e w' => e = .returned (.tuple #[.int .i64 (wV (-1) T), .int .i64 (wK 1 T)]) ∧ w' = w := by
  have hz : (0 : Int) < (s.size : Int) := by omega
  go_enter Tryz.func54, Tryz.ntmps54
  go_wp2_with fail
  go_loop [5, 6] (fun nv kv => ∃ (a : Int) (k : Nat), 1 ≤ k ∧ k ≤ s.size ∧ nv = .int .i64 a ∧ kv = .int .i64 k ∧ 0 ≤ a ∧ a ≤ 16777217 ∧ Hid (accW 0 T = accW a (s.data.toList.drop k)) ∧ Hid (lenW T + 1 = k + lenW (s.data.toList.drop k))) (fun _ kv => s.size - (RowKit.intOf kv).toNat)
  case atStart => exact ⟨0, 1, by omega, by omega, rfl, rfl, by omega, by omega, show _ = _ from by rw [HT.out], show _ = _ from by rw [HT.out]; omega⟩
  case round =>
    obtain ⟨a, k, hk0, hk, rfl, rfl, ha0, ha1, hA, hL⟩ := hrel
    have key : accW a (s.data.toList.drop k) = a → lenW (s.data.toList.drop k) = 0 → Hid (wV (-1) T = (if k = 1 then 0 else -1 * a) ∧ wK 1 T = (if k = 1 then 0 else (k : Int))) := by
      intro e1 e2
      have h1 := hA.out
      have h2 := hL.out
      rw [e1] at h1
      rw [e2] at h2
      show _ ∧ _
      unfold wV wK
      by_cases hki : k = 1
      · have hz : lenW T = 0 := by omega
        simp only [hz, hki, if_true, and_self]
      · have hz : ¬ lenW T = 0 := by omega
        simp only [hz, hki, if_false, h1, true_and]; omega
    have KEY : Hid (accW a (s.data.toList.drop k) = a → lenW (s.data.toList.drop k) = 0 → Hid (wV (-1) T = (if k = 1 then 0 else -1 * a) ∧ wK 1 T = (if k = 1 then 0 else (k : Int)))) := key
    clear key
    by_cases hlt : k < s.size
    · have hd : Hid (s.data.toList.drop k = s[k] :: s.data.toList.drop (k + 1)) := drop_cons s k hlt
      have hzk : (k : Int) < (s.size : Int) := by omega
      by_cases hg : digB s[k] = true
      · have hg' := hg
        unfold digB at hg'
        simp at hg'
        obtain ⟨g1, g2⟩ := hg'
        have g3 : (48 : Int) ≤ (s[k].toNat : Int) := by omega
        have g4 : (s[k].toNat : Int) ≤ 57 := by omega
        go_wp2_with fail
        go_round
        case rel =>
          refine ⟨_, k + 1, by omega, by omega, rfl, by go_num, by omega, by omega, ?_, ?_⟩
          · show _ = _
            rw [hA.out, hd.out]; simp only [accW]; rw [if_pos hg]
          · show _ = _
            rw [hL.out, hd.out]; simp only [lenW]; rw [if_pos hg]; omega
        case measure => simp [RowKit.intOf]; omega
      · have e1 : accW a (s.data.toList.drop k) = a := by rw [hd.out]; simp only [accW]; rw [if_neg hg]
        have e2 : lenW (s.data.toList.drop k) = 0 := by rw [hd.out]; simp only [lenW]; rw [if_neg hg]
        have EV := KEY.out e1 e2
        clear e1 e2 KEY hA hL hd
        have hg2 : ¬ (48 : Int) ≤ (s[k].toNat : Int) ∨ ((48 : Int) ≤ (s[k].toNat : Int) ∧ ¬ (s[k].toNat : Int) ≤ 57) := by
          unfold digB at hg
          simp at hg
          omega
        clear hg
        by_cases hki : k = 1
        · subst hki
          rcases hg2 with g3 | ⟨g3, g4⟩
          all_goals
            go_wp2_with fail
            go_ret2
            refine ⟨ret_pair ?_ ?_, rfl⟩
            · rw [EV.out.1]; simp
            · rw [EV.out.2]; simp
        · have hki' : ((k : Int) == 1) = false := by simp; omega
          rcases hg2 with g3 | ⟨g3, g4⟩
          all_goals
            go_wp2_with fail
            go_ret2
            refine ⟨ret_pair ?_ ?_, rfl⟩
            · rw [EV.out.1, if_neg hki]; omega
            · rw [EV.out.2, if_neg hki]
    · have hke : s.data.toList.drop k = [] := List.drop_of_length_le (by rw [← Lib.size_eq]; omega)
      have EV := KEY.out (by rw [hke]; rfl) (by rw [hke]; rfl)
      have hzk : ¬ (k : Int) < (s.size : Int) := by omega
      clear hke KEY hA hL
      by_cases hki : k = 1
      · subst hki
        go_wp2_with fail
        go_ret2
        refine ⟨ret_pair ?_ ?_, rfl⟩
        · rw [EV.out.1]; simp
        · rw [EV.out.2]; simp
      · have hki' : ((k : Int) == 1) = false := by simp; omega
        go_wp2_with fail
        go_ret2
        refine ⟨ret_pair ?_ ?_, rfl⟩
        · rw [EV.out.1, if_neg hki]; omega
        · rw [EV.out.2, if_neg hki]

set_option maxHeartbeats 2000000 in
theorem whole_pos (s : ByteArray) (hs : s.size ≤ 281474976710656) (h0 : 0 < s.size) (h45 : ((s[0].toNat : Int) == 45) = false) (T : List UInt8) (HT : Hid (s.data.toList.drop 0 = T)) (w : World) :
    Calls Tryz.prog 54 #[.string s] w fun e w' => e = .returned (.tuple #[.int .i64 (wV (1) T), .int .i64 (wK 0 T)]) ∧ w' = w := by
  have hz : (0 : Int) < (s.size : Int) := by omega
  go_enter Tryz.func54, Tryz.ntmps54
  go_wp2_with fail
  go_loop [5, 6] (fun nv kv => ∃ (a : Int) (k : Nat), 0 ≤ k ∧ k ≤ s.size ∧ nv = .int .i64 a ∧ kv = .int .i64 k ∧ 0 ≤ a ∧ a ≤ 16777217 ∧ Hid (accW 0 T = accW a (s.data.toList.drop k)) ∧ Hid (lenW T + 0 = k + lenW (s.data.toList.drop k))) (fun _ kv => s.size - (RowKit.intOf kv).toNat)
  case atStart => exact ⟨0, 0, by omega, by omega, rfl, rfl, by omega, by omega, show _ = _ from by rw [HT.out], show _ = _ from by rw [HT.out]; omega⟩
  case round =>
    obtain ⟨a, k, hk0, hk, rfl, rfl, ha0, ha1, hA, hL⟩ := hrel
    have key : accW a (s.data.toList.drop k) = a → lenW (s.data.toList.drop k) = 0 → Hid (wV (1) T = (if k = 0 then 0 else 1 * a) ∧ wK 0 T = (if k = 0 then 0 else (k : Int))) := by
      intro e1 e2
      have h1 := hA.out
      have h2 := hL.out
      rw [e1] at h1
      rw [e2] at h2
      show _ ∧ _
      unfold wV wK
      by_cases hki : k = 0
      · have hz : lenW T = 0 := by omega
        simp only [hz, hki, if_true, and_self]
      · have hz : ¬ lenW T = 0 := by omega
        simp only [hz, hki, if_false, h1, true_and]; omega
    have KEY : Hid (accW a (s.data.toList.drop k) = a → lenW (s.data.toList.drop k) = 0 → Hid (wV (1) T = (if k = 0 then 0 else 1 * a) ∧ wK 0 T = (if k = 0 then 0 else (k : Int)))) := key
    clear key
    by_cases hlt : k < s.size
    · have hd : Hid (s.data.toList.drop k = s[k] :: s.data.toList.drop (k + 1)) := drop_cons s k hlt
      have hzk : (k : Int) < (s.size : Int) := by omega
      by_cases hg : digB s[k] = true
      · have hg' := hg
        unfold digB at hg'
        simp at hg'
        obtain ⟨g1, g2⟩ := hg'
        have g3 : (48 : Int) ≤ (s[k].toNat : Int) := by omega
        have g4 : (s[k].toNat : Int) ≤ 57 := by omega
        go_wp2_with fail
        go_round
        case rel =>
          refine ⟨_, k + 1, by omega, by omega, rfl, by go_num, by omega, by omega, ?_, ?_⟩
          · show _ = _
            rw [hA.out, hd.out]; simp only [accW]; rw [if_pos hg]
          · show _ = _
            rw [hL.out, hd.out]; simp only [lenW]; rw [if_pos hg]; omega
        case measure => simp [RowKit.intOf]; omega
      · have e1 : accW a (s.data.toList.drop k) = a := by rw [hd.out]; simp only [accW]; rw [if_neg hg]
        have e2 : lenW (s.data.toList.drop k) = 0 := by rw [hd.out]; simp only [lenW]; rw [if_neg hg]
        have EV := KEY.out e1 e2
        clear e1 e2 KEY hA hL hd
        have hg2 : ¬ (48 : Int) ≤ (s[k].toNat : Int) ∨ ((48 : Int) ≤ (s[k].toNat : Int) ∧ ¬ (s[k].toNat : Int) ≤ 57) := by
          unfold digB at hg
          simp at hg
          omega
        clear hg
        by_cases hki : k = 0
        · subst hki
          rcases hg2 with g3 | ⟨g3, g4⟩
          all_goals
            go_wp2_with fail
            go_ret2
            refine ⟨ret_pair ?_ ?_, rfl⟩
            · rw [EV.out.1]; simp
            · rw [EV.out.2]; simp
        · have hki' : ((k : Int) == 0) = false := by simp; omega
          rcases hg2 with g3 | ⟨g3, g4⟩
          all_goals
            go_wp2_with fail
            go_ret2
            refine ⟨ret_pair ?_ ?_, rfl⟩
            · rw [EV.out.1, if_neg hki]; omega
            · rw [EV.out.2, if_neg hki]
    · have hke : s.data.toList.drop k = [] := List.drop_of_length_le (by rw [← Lib.size_eq]; omega)
      have EV := KEY.out (by rw [hke]; rfl) (by rw [hke]; rfl)
      have hzk : ¬ (k : Int) < (s.size : Int) := by omega
      clear hke KEY hA hL
      by_cases hki : k = 0
      · exfalso; omega
      · have hki' : ((k : Int) == 0) = false := by simp; omega
        go_wp2_with fail
        go_ret2
        refine ⟨ret_pair ?_ ?_, rfl⟩
        · rw [EV.out.1, if_neg hki]; omega
        · rw [EV.out.2, if_neg hki]

set_option maxHeartbeats 1000000 in
theorem whole_nil (s : ByteArray) (h0 : s.size = 0) (w : World) :
    Calls Tryz.prog 54 #[.string s] w fun e w' => e = .returned (.tuple #[.int .i64 0, .int .i64 0]) ∧ w' = w := by
  have hz : ¬ (0 : Int) < (s.size : Int) := by omega
  go_enter Tryz.func54, Tryz.ntmps54
  go_wp2_with fail
  refine wp_loop_rounds 1 ?_
  rw [rounds_succ]
  go_wp2
  go_ret2
  exact ⟨rfl, rfl⟩
end Go.Proofs.YtbgggbkmnfppoaaGreatDoor
