/-
  3 texts in one: what each proves stands at its head.
-/
import Derived.Test.YtnpigleolifcaaaUC
import Derived.Test.YtnpigleolifcaaaUB
import Derived.Laws.Runes
import Derived.WalkMore
import Derived.Laws.RangeString
import Derived.Deep.QuietTactic
import Derived.BigQuiet
import Derived.Test.YtnpigleolifcaaaDg
/-
  The walk of strings.IndexRune at the two signs, over runes above ASCII: it finds none.
-/
namespace Go.Proofs.Ytnpigleolifcaaa
open Go.RowKit
set_option maxRecDepth 100000

end Go.Proofs.Ytnpigleolifcaaa
/-
  The walk of the document's reader of whole numbers.
-/
namespace Go.Proofs.Ytnpigleolifcaaa
open Go.RowKit
open Go.Lib
set_option maxRecDepth 100000

/-- Is the byte a digit? -/
def digB (b : UInt8) : Bool := decide (48 ≤ b.toNat) && decide (b.toNat ≤ 57)

/-- The number that the digits at the front spell, up to the bound, behind what was read. -/
def accW (acc : Int) : List UInt8 → Int
  | [] => acc
  | b :: r => if digB b then accW (min (10 * acc + ((b.toNat : Int) - 48)) 16777217) r else acc
/-- How many digits stand at the front. -/
def lenW : List UInt8 → Nat
  | [] => 0
  | b :: r => if digB b then lenW r + 1 else 0

theorem ret_pair {a b c d : Int} (h : a = c) (k : b = d) : Ending.returned (.tuple #[.int .i64 a, .int .i64 b]) = .returned (.tuple #[.int .i64 c, .int .i64 d]) := by rw [h, k]

/-- The number at the front of a text behind its sign, and how many bytes it takes with the sign. -/
def wV (sg : Int) (l : List UInt8) : Int := if lenW l = 0 then 0 else sg * accW 0 l
def wK (i : Nat) (l : List UInt8) : Int := if lenW l = 0 then 0 else (lenW l : Int) + i

theorem drop_cons (s : ByteArray) (k : Nat) (h : k < s.size) : s.data.toList.drop k = s[k] :: s.data.toList.drop (k + 1) := by
  rw [List.drop_eq_getElem_cons (by simpa using h)]; rfl

set_option maxHeartbeats 2000000 in
theorem whole_neg (s : ByteArray) (hs : s.size ≤ 281474976710656) (h0 : 0 < s.size) (h45 : ((s[0].toNat : Int) == 45) = true) (T : List UInt8) (HT : Hid (s.data.toList.drop 1 = T)) (w : World) :
    Calls Try.prog 77 #[.string s] w fun e w' => e = .returned (.tuple #[.int .i64 (wV (-1) T), .int .i64 (wK 1 T)]) ∧ w' = w := by
  have hz : (0 : Int) < (s.size : Int) := by omega
  go_enter Try.func77, Try.ntmps77
  go_wp2_with fail
  go_loop [5, 6] (fun nv kv => ∃ (a : Int) (k : Nat), 1 ≤ k ∧ k ≤ s.size ∧ nv = .int .i64 a ∧ kv = .int .i64 k ∧ 0 ≤ a ∧ a ≤ 16777217 ∧ Hid (accW 0 T = accW a (s.data.toList.drop k)) ∧ Hid (lenW T + 1 = k + lenW (s.data.toList.drop k))) (fun _ kv => s.size - (RowKit.intOf kv).toNat)
  case atStart => exact ⟨0, 1, by omega, by omega, rfl, rfl, by omega, by omega, show _ = _ from by rw [HT.out], show _ = _ from by rw [HT.out]; omega⟩
  case round =>
    obtain ⟨a, k, hk0, hk, rfl, rfl, ha0, ha1, hA, hL⟩ := hrel
    have key : accW a (s.data.toList.drop k) = a → lenW (s.data.toList.drop k) = 0 → Hid (wV (-1) T = (if k = 1 then 0 else -1 * a) ∧ wK 1 T = (if k = 1 then 0 else (k : Int))) := by
      intro e1 e2
      have h1 := hA.out
      have h2 := hL.out
      rw [e1] at h1
      rw [e2] at h2
      show _ ∧ _
      unfold wV wK
      by_cases hki : k = 1
      · have hz : lenW T = 0 := by omega
        simp only [hz, hki, if_true, and_self]
      · have hz : ¬ lenW T = 0 := by omega
        simp only [hz, hki, if_false, h1, true_and]; omega
    have KEY : Hid (accW a (s.data.toList.drop k) = a → lenW (s.data.toList.drop k) = 0 → Hid (wV (-1) T = (if k = 1 then 0 else -1 * a) ∧ wK 1 T = (if k = 1 then 0 else (k : Int)))) := key
    clear key
    by_cases hlt : k < s.size
    · have hd : Hid (s.data.toList.drop k = s[k] :: s.data.toList.drop (k + 1)) := drop_cons s k hlt
      have hzk : (k : Int) < (s.size : Int) := by omega
      by_cases hg : digB s[k] = true
      · have hg' := hg
        unfold digB at hg'
        simp at hg'
        obtain ⟨g1, g2⟩ := hg'
        have g3 : (48 : Int) ≤ (s[k].toNat : Int) := by omega
        have g4 : (s[k].toNat : Int) ≤ 57 := by omega
        go_wp2_with fail
        go_round
        case rel =>
          refine ⟨_, k + 1, by omega, by omega, rfl, by go_num, by omega, by omega, ?_, ?_⟩
          · show _ = _
            rw [hA.out, hd.out]; simp only [accW]; rw [if_pos hg]
          · show _ = _
            rw [hL.out, hd.out]; simp only [lenW]; rw [if_pos hg]; omega
        case measure => simp [RowKit.intOf]; omega
      · have e1 : accW a (s.data.toList.drop k) = a := by rw [hd.out]; simp only [accW]; rw [if_neg hg]
        have e2 : lenW (s.data.toList.drop k) = 0 := by rw [hd.out]; simp only [lenW]; rw [if_neg hg]
        have EV := KEY.out e1 e2
        clear e1 e2 KEY hA hL hd
        have hg2 : ¬ (48 : Int) ≤ (s[k].toNat : Int) ∨ ((48 : Int) ≤ (s[k].toNat : Int) ∧ ¬ (s[k].toNat : Int) ≤ 57) := by
          unfold digB at hg
          simp at hg
          omega
        clear hg
        by_cases hki : k = 1
        · subst hki
          rcases hg2 with g3 | ⟨g3, g4⟩
          all_goals
            go_wp2_with fail
            go_ret2
            refine ⟨ret_pair ?_ ?_, rfl⟩
            · rw [EV.out.1]; simp
            · rw [EV.out.2]; simp
        · have hki' : ((k : Int) == 1) = false := by simp; omega
          rcases hg2 with g3 | ⟨g3, g4⟩
          all_goals
            go_wp2_with fail
            go_ret2
            refine ⟨ret_pair ?_ ?_, rfl⟩
            · rw [EV.out.1, if_neg hki]; omega
            · rw [EV.out.2, if_neg hki]
    · have hke : s.data.toList.drop k = [] := List.drop_of_length_le (by rw [← Lib.size_eq]; omega)
      have EV := KEY.out (by rw [hke]; rfl) (by rw [hke]; rfl)
      have hzk : ¬ (k : Int) < (s.size : Int) := by omega
      clear hke KEY hA hL
      by_cases hki : k = 1
      · subst hki
        go_wp2_with fail
        go_ret2
        refine ⟨ret_pair ?_ ?_, rfl⟩
        · rw [EV.out.1]; simp
        · rw [EV.out.2]; simp
      · have hki' : ((k : Int) == 1) = false := by simp; omega
        go_wp2_with fail
        go_ret2
        refine ⟨ret_pair ?_ ?_, rfl⟩
        · rw [EV.out.1, if_neg hki]; omega
        · rw [EV.out.2, if_neg hki]

set_option maxHeartbeats 2000000 in
theorem whole_pos (s : ByteArray) (hs : s.size ≤ 281474976710656) (h0 : 0 < s.size) (h45 : ((s[0].toNat : Int) == 45) = false) (T : List UInt8) (HT : Hid (s.data.toList.drop 0 = T)) (w : World) :
    Calls Try.prog 77 #[.string s] w fun e w' => e = .returned (.tuple #[.int .i64 (wV (1) T), .int .i64 (wK 0 T)]) ∧ w' = w := by
  have hz : (0 : Int) < (s.size : Int) := by omega
  go_enter Try.func77, Try.ntmps77
  go_wp2_with fail
  go_loop [5, 6] (fun nv kv => ∃ (a : Int) (k : Nat), 0 ≤ k ∧ k ≤ s.size ∧ nv = .int .i64 a ∧ kv = .int .i64 k ∧ 0 ≤ a ∧ a ≤ 16777217 ∧ Hid (accW 0 T = accW a (s.data.toList.drop k)) ∧ Hid (lenW T + 0 = k + lenW (s.data.toList.drop k))) (fun _ kv => s.size - (RowKit.intOf kv).toNat)
  case atStart => exact ⟨0, 0, by omega, by omega, rfl, rfl, by omega, by omega, show _ = _ from by rw [HT.out], show _ = _ from by rw [HT.out]; omega⟩
  case round =>
    obtain ⟨a, k, hk0, hk, rfl, rfl, ha0, ha1, hA, hL⟩ := hrel
    have key : accW a (s.data.toList.drop k) = a → lenW (s.data.toList.drop k) = 0 → Hid (wV (1) T = (if k = 0 then 0 else 1 * a) ∧ wK 0 T = (if k = 0 then 0 else (k : Int))) := by
      intro e1 e2
      have h1 := hA.out
      have h2 := hL.out
      rw [e1] at h1
      rw [e2] at h2
      show _ ∧ _
      unfold wV wK
      by_cases hki : k = 0
      · have hz : lenW T = 0 := by omega
        simp only [hz, hki, if_true, and_self]
      · have hz : ¬ lenW T = 0 := by omega
        simp only [hz, hki, if_false, h1, true_and]; omega
    have KEY : Hid (accW a (s.data.toList.drop k) = a → lenW (s.data.toList.drop k) = 0 → Hid (wV (1) T = (if k = 0 then 0 else 1 * a) ∧ wK 0 T = (if k = 0 then 0 else (k : Int)))) := key
    clear key
    by_cases hlt : k < s.size
    · have hd : Hid (s.data.toList.drop k = s[k] :: s.data.toList.drop (k + 1)) := drop_cons s k hlt
      have hzk : (k : Int) < (s.size : Int) := by omega
      by_cases hg : digB s[k] = true
      · have hg' := hg
        unfold digB at hg'
        simp at hg'
        obtain ⟨g1, g2⟩ := hg'
        have g3 : (48 : Int) ≤ (s[k].toNat : Int) := by omega
        have g4 : (s[k].toNat : Int) ≤ 57 := by omega
        go_wp2_with fail
        go_round
        case rel =>
          refine ⟨_, k + 1, by omega, by omega, rfl, by go_num, by omega, by omega, ?_, ?_⟩
          · show _ = _
            rw [hA.out, hd.out]; simp only [accW]; rw [if_pos hg]
          · show _ = _
            rw [hL.out, hd.out]; simp only [lenW]; rw [if_pos hg]; omega
        case measure => simp [RowKit.intOf]; omega
      · have e1 : accW a (s.data.toList.drop k) = a := by rw [hd.out]; simp only [accW]; rw [if_neg hg]
        have e2 : lenW (s.data.toList.drop k) = 0 := by rw [hd.out]; simp only [lenW]; rw [if_neg hg]
        have EV := KEY.out e1 e2
        clear e1 e2 KEY hA hL hd
        have hg2 : ¬ (48 : Int) ≤ (s[k].toNat : Int) ∨ ((48 : Int) ≤ (s[k].toNat : Int) ∧ ¬ (s[k].toNat : Int) ≤ 57) := by
          unfold digB at hg
          simp at hg
          omega
        clear hg
        by_cases hki : k = 0
        · subst hki
          rcases hg2 with g3 | ⟨g3, g4⟩
          all_goals
            go_wp2_with fail
            go_ret2
            refine ⟨ret_pair ?_ ?_, rfl⟩
            · rw [EV.out.1]; simp
            · rw [EV.out.2]; simp
        · have hki' : ((k : Int) == 0) = false := by simp; omega
          rcases hg2 with g3 | ⟨g3, g4⟩
          all_goals
            go_wp2_with fail
            go_ret2
            refine ⟨ret_pair ?_ ?_, rfl⟩
            · rw [EV.out.1, if_neg hki]; omega
            · rw [EV.out.2, if_neg hki]
    · have hke : s.data.toList.drop k = [] := List.drop_of_length_le (by rw [← Lib.size_eq]; omega)
      have EV := KEY.out (by rw [hke]; rfl) (by rw [hke]; rfl)
      have hzk : ¬ (k : Int) < (s.size : Int) := by omega
      clear hke KEY hA hL
      by_cases hki : k = 0
      · exfalso; omega
      · have hki' : ((k : Int) == 0) = false := by simp; omega
        go_wp2_with fail
        go_ret2
        refine ⟨ret_pair ?_ ?_, rfl⟩
        · rw [EV.out.1, if_neg hki]; omega
        · rw [EV.out.2, if_neg hki]

set_option maxHeartbeats 1000000 in
theorem whole_nil (s : ByteArray) (h0 : s.size = 0) (w : World) :
    Calls Try.prog 77 #[.string s] w fun e w' => e = .returned (.tuple #[.int .i64 0, .int .i64 0]) ∧ w' = w := by
  have hz : ¬ (0 : Int) < (s.size : Int) := by omega
  go_enter Try.func77, Try.ntmps77
  go_wp2_with fail
  refine wp_loop_rounds 1 ?_
  rw [rounds_succ]
  go_wp2
  go_ret2
  exact ⟨rfl, rfl⟩
end Go.Proofs.Ytnpigleolifcaaa
/-
  What the document's reader reads, as lists of bytes.
-/
namespace Go.Proofs.Ytnpigleolifcaaa
open Go.RowKit
open Go.Lib
set_option maxRecDepth 100000

/-- The whole number at the front of a text, and how many bytes it takes. -/
def wX (l : List UInt8) : Int := if l.head? = some 45 then wV (-1) (l.drop 1) else wV 1 (l.drop 0)
def wN (i : Nat) (l : List UInt8) : Nat := if lenW l = 0 then 0 else lenW l + i
def wL (l : List UInt8) : Nat := if l.head? = some 45 then wN 1 (l.drop 1) else wN 0 (l.drop 0)

theorem wK_cast (i : Nat) (l : List UInt8) : wK i l = (wN i l : Nat) := by
  unfold wK wN
  split
  · rfl
  · omega

theorem whole_bs (l : List UInt8) (hl : l.length ≤ 281474976710656) (w : World) :
    Calls Try.prog 77 #[.string (bs l)] w fun e w' => e = .returned (.tuple #[.int .i64 (wX l), .int .i64 (wL l : Nat)]) ∧ w' = w := by
  have hs := bs_size l
  cases l with
  | nil => exact whole_nil (bs []) (by rw [hs]; rfl) w
  | cons b r =>
    have h0 : 0 < (bs (b :: r)).size := by rw [hs]; simp
    have hb : (bs (b :: r))[0] = b := by simp [bs, ByteArray.getElem_eq_getElem_data]
    by_cases h45 : b = 45
    · have := whole_neg (bs (b :: r)) (by rw [hs]; exact hl) h0 (by rw [hb, h45]; rfl) _ rfl w
      rw [bs_list, wK_cast] at this
      unfold wX wL
      rw [if_pos (by rw [h45]; rfl), if_pos (by rw [h45]; rfl)]
      exact this
    · have hne : ¬ (b :: r).head? = some 45 := by simpa using h45
      have := whole_pos (bs (b :: r)) (by rw [hs]; exact hl) h0 (by
        rw [hb, beq_eq_false_iff_ne]
        intro e
        apply h45
        apply UInt8.toNat.inj
        show b.toNat = 45
        omega) _ rfl w
      rw [bs_list, wK_cast] at this
      unfold wX wL
      rw [if_neg hne, if_neg hne]
      exact this

theorem lenW_le (l : List UInt8) : lenW l ≤ l.length := by
  induction l with
  | nil => simp [lenW]
  | cons b r ih =>
    simp only [lenW]
    split
    · simp; omega
    · simp

theorem wL_le (l : List UInt8) : wL l ≤ l.length := by
  unfold wL wN
  have h0 := lenW_le (l.drop 0)
  have h1 := lenW_le (l.drop 1)
  rw [List.drop_zero] at *
  rw [List.length_drop] at h1
  repeat' split
  all_goals omega

/-- What is read of a text: its two parts. -/
def rst (l : List UInt8) : List UInt8 := l.drop (wL l)
def rdX (l : List UInt8) : Int := if rst l = [105] then 0 else wX l
def rdY (l : List UInt8) : Int :=
  if rst l = [105] then wX l else if rst l = [] then 0 else wX (if (rst l).head? = some 43 then (rst l).drop 1 else rst l)
/-- Is it the text of what is read of it? -/
def rdOk (l : List UInt8) : Bool := decide (wL l ≠ 0 ∧ (rdX l).natAbs ≤ 16777216 ∧ (rdY l).natAbs ≤ 16777216 ∧ txt (rdX l) (rdY l) = l)

end Go.Proofs.Ytnpigleolifcaaa
