/-
  3 texts in one: what each proves stands at its head.
-/
import Derived.Test.YtndgglhppoijnaaGreatDoorUC
import Derived.Test.YtndgglhppoijnaaGreatDoorUB
import Derived.Laws.Runes
import Derived.WalkMore
import Derived.Laws.RangeString
import Derived.Deep.QuietTactic
import Derived.BigQuiet
import Derived.Test.YtndgglhppoijnaaGreatDoorDg
/-
  The walk of strings.IndexRune at the two signs, over runes above ASCII: it finds none.
-/
namespace Go.Proofs.YtndgglhppoijnaaGreatDoor
open Go.RowKit
set_option maxRecDepth 100000

set_option maxHeartbeats 400000 in
theorem validRune_w (r : Int) (h0 : 0 ≤ r) (h1 : r ≤ 1114111) (w : World) :
    Calls Tryz.prog 132 #[.int .i32 r] w fun e w' => e = .returned (.bool (decide (r < 55296) || decide (57343 < r))) ∧ w' = w := by
  by_cases h2 : r < 55296
  · rw [decide_eq_true h2]
    go_enter Tryz.func132, Tryz.ntmps132
    go_wp2
    go_ret
    exact ⟨rfl, rfl⟩
  · by_cases h3 : 57343 < r
    · rw [decide_eq_false h2, decide_eq_true h3]
      go_enter Tryz.func132, Tryz.ntmps132
      go_wp2
      go_ret
      exact ⟨rfl, rfl⟩
    · rw [decide_eq_false h2, decide_eq_false h3]
      go_enter Tryz.func132, Tryz.ntmps132
      go_wp2
      go_ret
      exact ⟨rfl, rfl⟩

set_option maxHeartbeats 1000000 in
theorem ir_error (w : World) :
    Calls Tryz.prog 116 #[.string ⟨#[43, 45]⟩, .int .i32 65533] w fun e w' => e = .returned (.int .i64 (-1)) ∧ Below w.heap.size w w' := by
  have n0 := run_next_ascii (P := Tryz.prog) w ⟨#[43, 45]⟩ 0 0 (by decide) (by decide)
  have n1 := run_next_ascii (P := Tryz.prog) w ⟨#[43, 45]⟩ 1 0 (by decide) (by decide)
  have n2 := run_next_end (P := Tryz.prog) w ⟨#[43, 45]⟩ 2 0 (by decide)
  have hb : Below w.heap.size w (w.iter ⟨#[43, 45]⟩ 2) := (Below.refl _ _).alloc (Nat.le_refl _) _
  go_enter Tryz.func116, Tryz.ntmps116
  go_wp2_with fail
  refine wp_loop_rounds 3 ?_
  rw [rounds_succ]
  go_wp2_with fail
  rw [rounds_succ]
  go_wp2_with fail
  rw [rounds_succ]
  go_wp2_with fail
  go_ret
  exact ⟨rfl, hb⟩

set_option maxHeartbeats 1000000 in
theorem ir_none (r : Int) (h0 : 128 ≤ r) (h1 : r ≤ 1114111) (h2 : (r == 65533) = false) (h3 : (decide (r < 55296) || decide (57343 < r)) = false) (w : World) :
    Calls Tryz.prog 116 #[.string ⟨#[43, 45]⟩, .int .i32 r] w fun e w' => e = .returned (.int .i64 (-1)) ∧ w' = w := by
  have hv := validRune_w r (by omega) h1
  rw [h3] at hv
  go_enter Tryz.func116, Tryz.ntmps116
  go_wp2_with (go_at_call 132; refine (hv _).mono ?_; rintro e w' ⟨rfl, rfl⟩)
  go_ret
  exact ⟨rfl, rfl⟩

set_option maxHeartbeats 1000000 in
theorem ir_long (r : Int) (n : Nat) (h0 : 128 ≤ r) (h1 : r ≤ 1114111) (h2 : (r == 65533) = false) (hn : 2 < n) (hn4 : n ≤ 4) (hs : (Utf8.encode r).size = n)
    (hv : ∀ w, Calls Tryz.prog 132 #[.int .i32 r] w fun e w' => e = .returned (.bool true) ∧ w' = w) (w : World) :
    Calls Tryz.prog 116 #[.string ⟨#[43, 45]⟩, .int .i32 r] w fun e w' => e = .returned (.int .i64 (-1)) ∧ w' = w := by
  have hi : ¬ (n : Int) - 1 < 2 := by omega
  have hcv := fun w => run_convert_int_string (P := Tryz.prog) w 21 9 .i32 r (by rw [Tryz.underlying21]; rfl) Tryz.underlying9
  go_enter Tryz.func116, Tryz.ntmps116
  go_wp2_with (go_at_call 132; refine (hv _).mono ?_; rintro e w' ⟨rfl, rfl⟩)
  go_step3
  go_wp2_with fail
  refine wp_loop_rounds 1 ?_
  rw [rounds_succ]
  go_wp2_with fail
  rw [Exit.noGoto_ret]
  go_ret
  exact ⟨rfl, rfl⟩

theorem ib_empty (s : ByteArray) (b : UInt8) (w : World) (hs : s.data.toList = []) :
    Calls Tryz.prog 131 #[.string s, .int .u8 b.toNat] w fun e w' => e = .returned (.int .i64 (-1)) ∧ w' = w := by
  refine (Tryz.strings_IndexByte s b.toNat w).mono ?_
  rintro e w' ⟨rfl, rfl⟩
  rw [hs]
  exact ⟨rfl, rfl⟩

set_option maxHeartbeats 1000000 in
theorem ir_two (r : Int) (h0 : 128 ≤ r) (h1 : r ≤ 1114111) (h2 : (r == 65533) = false) (hs : (Utf8.encode r).size = 2) (h128 : 128 ≤ ((Utf8.encode r)[1]'(by omega)).toNat)
    (hv : ∀ w, Calls Tryz.prog 132 #[.int .i32 r] w fun e w' => e = .returned (.bool true) ∧ w' = w) (w : World) :
    Calls Tryz.prog 116 #[.string ⟨#[43, 45]⟩, .int .i32 r] w fun e w' => e = .returned (.int .i64 (-1)) ∧ Below w.heap.size w w' := by
  have hw2 : IntKind.i64.wrap 2 = 2 := by decide
  have h45 : ((((⟨#[43, 45]⟩ : ByteArray)[1]'(by decide)).toNat : Int) != (((Utf8.encode r)[1]'(by omega)).toNat : Int)) = true := by
    rw [bne_iff_ne]
    show (45 : Int) ≠ _
    omega
  have hcv := fun w => run_convert_int_string (P := Tryz.prog) w 21 9 .i32 r (by rw [Tryz.underlying21]; rfl) Tryz.underlying9
  go_enter Tryz.func116, Tryz.ntmps116
  go_wp2_with (go_at_call 132; refine (hv _).mono ?_; rintro e w' ⟨rfl, rfl⟩)
  go_step3
  go_wp2_with fail
  refine wp_loop_rounds 1 ?_
  rw [rounds_succ]
  go_wp2_with fail
  go_step3
  go_wp2_with fail
  go_quiet (fail)
  go_wp2_with fail
  go_quiet (first | (go_at_call 131; exact (ib_empty ByteArray.empty _ _ rfl).mono (fun _ _ h => ⟨h.1, _, h.2⟩)))
  go_wp2_with fail
  simp only [Exit.noGoto_ret, Exit.inBlock, Exit.then]
  go_ret
  exact ⟨rfl, below_drewN (Below.refl _ _) _⟩

theorem ir_high (r : Nat) (h0 : 128 ≤ r) (h1 : r ≤ 1114111) (w : World) :
    Calls Tryz.prog 116 #[.string ⟨#[43, 45]⟩, .int .i32 r] w fun e w' => e = .returned (.int .i64 (-1)) ∧ Below w.heap.size w w' := by
  by_cases h2 : r = 65533
  · subst h2
    exact ir_error w
  · have h2' : ((r : Int) == 65533) = false := by rw [beq_eq_false_iff_ne]; omega
    cases h3 : (decide ((r : Int) < 55296) || decide (57343 < (r : Int))) with
    | false =>
      refine (ir_none r (by omega) (by omega) h2' h3 w).mono ?_
      rintro e w' ⟨rfl, rfl⟩
      exact ⟨rfl, Below.refl _ _⟩
    | true =>
      have hv := validRune_w r (by omega) (by omega)
      rw [h3] at hv
      have hV : Utf8.valid (r : Int) = true := by
        rw [validRune_eq]
        unfold validRune
        simp at h3
        simp
        omega
      obtain ⟨n1, n2, n3⟩ := encode_facts r hV (by omega)
      by_cases h8 : (Utf8.encode r).size = 2
      · have h7 := n3 (by omega)
        refine ir_two r (by omega) (by omega) h2' h8 ?_ hv w
        simpa [h8] using h7
      · refine (ir_long r _ (by omega) (by omega) h2' (by omega) n2 rfl hv w).mono ?_
        rintro e w' ⟨rfl, rfl⟩
        exact ⟨rfl, Below.refl _ _⟩
end Go.Proofs.YtndgglhppoijnaaGreatDoor
/-
  The walk of the document's reader of whole numbers.
-/
namespace Go.Proofs.YtndgglhppoijnaaGreatDoor
open Go.RowKit
open Go.Lib
set_option maxRecDepth 100000

/-- Is the byte a digit? -/
def digB (b : UInt8) : Bool := decide (48 ≤ b.toNat) && decide (b.toNat ≤ 57)

/-- The number that the digits at the front spell, up to the bound, behind what was read. -/
def accW (acc : Int) : List UInt8 → Int
  | [] => acc
  | b :: r => if digB b then accW (min (10 * acc + ((b.toNat : Int) - 48)) 16777217) r else acc
/-- How many digits stand at the front. -/
def lenW : List UInt8 → Nat
  | [] => 0
  | b :: r => if digB b then lenW r + 1 else 0

theorem accW_bound (l : List UInt8) : ∀ acc, 0 ≤ acc → acc ≤ 16777217 → 0 ≤ accW acc l ∧ accW acc l ≤ 16777217 := by
  induction l with
  | nil => intro acc h0 h1; exact ⟨h0, h1⟩
  | cons b r ih =>
    intro acc h0 h1
    simp only [accW]
    split
    · rename_i hd
      unfold digB at hd
      simp at hd
      exact ih _ (by omega) (by omega)
    · exact ⟨h0, h1⟩

theorem ret_pair {a b c d : Int} (h : a = c) (k : b = d) : Ending.returned (.tuple #[.int .i64 a, .int .i64 b]) = .returned (.tuple #[.int .i64 c, .int .i64 d]) := by rw [h, k]

/-- The number at the front of a text behind its sign, and how many bytes it takes with the sign. -/
def wV (sg : Int) (l : List UInt8) : Int := if lenW l = 0 then 0 else sg * accW 0 l
def wK (i : Nat) (l : List UInt8) : Int := if lenW l = 0 then 0 else (lenW l : Int) + i

theorem drop_cons (s : ByteArray) (k : Nat) (h : k < s.size) : s.data.toList.drop k = s[k] :: s.data.toList.drop (k + 1) := by
  rw [List.drop_eq_getElem_cons (by simpa using h)]; rfl

set_option maxHeartbeats 2000000 in
theorem whole_neg (s : ByteArray) (hs : s.size ≤ 281474976710656) (h0 : 0 < s.size) (h45 : ((s[0].toNat : Int) == 45) = true) (T : List UInt8) (HT : Hid (s.data.toList.drop 1 = T)) (w : World) :
    Calls Tryz.prog 80 #[.string s] w fun e w' => e = .returned (.tuple #[.int .i64 (wV (-1) T), .int .i64 (wK 1 T)]) ∧ w' = w := by
  have hz : (0 : Int) < (s.size : Int) := by omega
  go_enter Tryz.func80, Tryz.ntmps80
  go_wp2_with fail
  go_loop [5, 6] (fun nv kv => ∃ (a : Int) (k : Nat), 1 ≤ k ∧ k ≤ s.size ∧ nv = .int .i64 a ∧ kv = .int .i64 k ∧ 0 ≤ a ∧ a ≤ 16777217 ∧ Hid (accW 0 T = accW a (s.data.toList.drop k)) ∧ Hid (lenW T + 1 = k + lenW (s.data.toList.drop k))) (fun _ kv => s.size - (RowKit.intOf kv).toNat)
  case atStart => exact ⟨0, 1, by omega, by omega, rfl, rfl, by omega, by omega, show _ = _ from by rw [HT.out], show _ = _ from by rw [HT.out]; omega⟩
  case round =>
    obtain ⟨a, k, hk0, hk, rfl, rfl, ha0, ha1, hA, hL⟩ := hrel
    have key : accW a (s.data.toList.drop k) = a → lenW (s.data.toList.drop k) = 0 → Hid (wV (-1) T = (if k = 1 then 0 else -1 * a) ∧ wK 1 T = (if k = 1 then 0 else (k : Int))) := by
      intro e1 e2
      have h1 := hA.out
      have h2 := hL.out
      rw [e1] at h1
      rw [e2] at h2
      show _ ∧ _
      unfold wV wK
      by_cases hki : k = 1
      · have hz : lenW T = 0 := by omega
        simp only [hz, hki, if_true, and_self]
      · have hz : ¬ lenW T = 0 := by omega
        simp only [hz, hki, if_false, h1, true_and]; omega
    have KEY : Hid (accW a (s.data.toList.drop k) = a → lenW (s.data.toList.drop k) = 0 → Hid (wV (-1) T = (if k = 1 then 0 else -1 * a) ∧ wK 1 T = (if k = 1 then 0 else (k : Int)))) := key
    clear key
    by_cases hlt : k < s.size
    · have hd : Hid (s.data.toList.drop k = s[k] :: s.data.toList.drop (k + 1)) := drop_cons s k hlt
      have hzk : (k : Int) < (s.size : Int) := by omega
      by_cases hg : digB s[k] = true
      · have hg' := hg
        unfold digB at hg'
        simp at hg'
        obtain ⟨g1, g2⟩ := hg'
        have g3 : (48 : Int) ≤ (s[k].toNat : Int) := by omega
        have g4 : (s[k].toNat : Int) ≤ 57 := by omega
        go_wp2_with fail
        go_round
        case rel =>
          refine ⟨_, k + 1, by omega, by omega, rfl, by go_num, by omega, by omega, ?_, ?_⟩
          · show _ = _
            rw [hA.out, hd.out]; simp only [accW]; rw [if_pos hg]
          · show _ = _
            rw [hL.out, hd.out]; simp only [lenW]; rw [if_pos hg]; omega
        case measure => simp [RowKit.intOf]; omega
      · have e1 : accW a (s.data.toList.drop k) = a := by rw [hd.out]; simp only [accW]; rw [if_neg hg]
        have e2 : lenW (s.data.toList.drop k) = 0 := by rw [hd.out]; simp only [lenW]; rw [if_neg hg]
        have EV := KEY.out e1 e2
        clear e1 e2 KEY hA hL hd
        have hg2 : ¬ (48 : Int) ≤ (s[k].toNat : Int) ∨ ((48 : Int) ≤ (s[k].toNat : Int) ∧ ¬ (s[k].toNat : Int) ≤ 57) := by
          unfold digB at hg
          simp at hg
          omega
        clear hg
        by_cases hki : k = 1
        · subst hki
          rcases hg2 with g3 | ⟨g3, g4⟩
          all_goals
            go_wp2_with fail
            go_ret2
            refine ⟨ret_pair ?_ ?_, rfl⟩
            · rw [EV.out.1]; simp
            · rw [EV.out.2]; simp
        · have hki' : ((k : Int) == 1) = false := by simp; omega
          rcases hg2 with g3 | ⟨g3, g4⟩
          all_goals
            go_wp2_with fail
            go_ret2
            refine ⟨ret_pair ?_ ?_, rfl⟩
            · rw [EV.out.1, if_neg hki]; omega
            · rw [EV.out.2, if_neg hki]
    · have hke : s.data.toList.drop k = [] := List.drop_of_length_le (by rw [← Lib.size_eq]; omega)
      have EV := KEY.out (by rw [hke]; rfl) (by rw [hke]; rfl)
      have hzk : ¬ (k : Int) < (s.size : Int) := by omega
      clear hke KEY hA hL
      by_cases hki : k = 1
      · subst hki
        go_wp2_with fail
        go_ret2
        refine ⟨ret_pair ?_ ?_, rfl⟩
        · rw [EV.out.1]; simp
        · rw [EV.out.2]; simp
      · have hki' : ((k : Int) == 1) = false := by simp; omega
        go_wp2_with fail
        go_ret2
        refine ⟨ret_pair ?_ ?_, rfl⟩
        · rw [EV.out.1, if_neg hki]; omega
        · rw [EV.out.2, if_neg hki]

set_option maxHeartbeats 2000000 in
theorem whole_pos (s : ByteArray) (hs : s.size ≤ 281474976710656) (h0 : 0 < s.size) (h45 : ((s[0].toNat : Int) == 45) = false) (T : List UInt8) (HT : Hid (s.data.toList.drop 0 = T)) (w : World) :
    Calls Tryz.prog 80 #[.string s] w fun e w' => e = .returned (.tuple #[.int .i64 (wV (1) T), .int .i64 (wK 0 T)]) ∧ w' = w := by
  have hz : (0 : Int) < (s.size : Int) := by omega
  go_enter Tryz.func80, Tryz.ntmps80
  go_wp2_with fail
  go_loop [5, 6] (fun nv kv => ∃ (a : Int) (k : Nat), 0 ≤ k ∧ k ≤ s.size ∧ nv = .int .i64 a ∧ kv = .int .i64 k ∧ 0 ≤ a ∧ a ≤ 16777217 ∧ Hid (accW 0 T = accW a (s.data.toList.drop k)) ∧ Hid (lenW T + 0 = k + lenW (s.data.toList.drop k))) (fun _ kv => s.size - (RowKit.intOf kv).toNat)
  case atStart => exact ⟨0, 0, by omega, by omega, rfl, rfl, by omega, by omega, show _ = _ from by rw [HT.out], show _ = _ from by rw [HT.out]; omega⟩
  case round =>
    obtain ⟨a, k, hk0, hk, rfl, rfl, ha0, ha1, hA, hL⟩ := hrel
    have key : accW a (s.data.toList.drop k) = a → lenW (s.data.toList.drop k) = 0 → Hid (wV (1) T = (if k = 0 then 0 else 1 * a) ∧ wK 0 T = (if k = 0 then 0 else (k : Int))) := by
      intro e1 e2
      have h1 := hA.out
      have h2 := hL.out
      rw [e1] at h1
      rw [e2] at h2
      show _ ∧ _
      unfold wV wK
      by_cases hki : k = 0
      · have hz : lenW T = 0 := by omega
        simp only [hz, hki, if_true, and_self]
      · have hz : ¬ lenW T = 0 := by omega
        simp only [hz, hki, if_false, h1, true_and]; omega
    have KEY : Hid (accW a (s.data.toList.drop k) = a → lenW (s.data.toList.drop k) = 0 → Hid (wV (1) T = (if k = 0 then 0 else 1 * a) ∧ wK 0 T = (if k = 0 then 0 else (k : Int)))) := key
    clear key
    by_cases hlt : k < s.size
    · have hd : Hid (s.data.toList.drop k = s[k] :: s.data.toList.drop (k + 1)) := drop_cons s k hlt
      have hzk : (k : Int) < (s.size : Int) := by omega
      by_cases hg : digB s[k] = true
      · have hg' := hg
        unfold digB at hg'
        simp at hg'
        obtain ⟨g1, g2⟩ := hg'
        have g3 : (48 : Int) ≤ (s[k].toNat : Int) := by omega
        have g4 : (s[k].toNat : Int) ≤ 57 := by omega
        go_wp2_with fail
        go_round
        case rel =>
          refine ⟨_, k + 1, by omega, by omega, rfl, by go_num, by omega, by omega, ?_, ?_⟩
          · show _ = _
            rw [hA.out, hd.out]; simp only [accW]; rw [if_pos hg]
          · show _ = _
            rw [hL.out, hd.out]; simp only [lenW]; rw [if_pos hg]; omega
        case measure => simp [RowKit.intOf]; omega
      · have e1 : accW a (s.data.toList.drop k) = a := by rw [hd.out]; simp only [accW]; rw [if_neg hg]
        have e2 : lenW (s.data.toList.drop k) = 0 := by rw [hd.out]; simp only [lenW]; rw [if_neg hg]
        have EV := KEY.out e1 e2
        clear e1 e2 KEY hA hL hd
        have hg2 : ¬ (48 : Int) ≤ (s[k].toNat : Int) ∨ ((48 : Int) ≤ (s[k].toNat : Int) ∧ ¬ (s[k].toNat : Int) ≤ 57) := by
          unfold digB at hg
          simp at hg
          omega
        clear hg
        by_cases hki : k = 0
        · subst hki
          rcases hg2 with g3 | ⟨g3, g4⟩
          all_goals
            go_wp2_with fail
            go_ret2
            refine ⟨ret_pair ?_ ?_, rfl⟩
            · rw [EV.out.1]; simp
            · rw [EV.out.2]; simp
        · have hki' : ((k : Int) == 0) = false := by simp; omega
          rcases hg2 with g3 | ⟨g3, g4⟩
          all_goals
            go_wp2_with fail
            go_ret2
            refine ⟨ret_pair ?_ ?_, rfl⟩
            · rw [EV.out.1, if_neg hki]; omega
            · rw [EV.out.2, if_neg hki]
    · have hke : s.data.toList.drop k = [] := List.drop_of_length_le (by rw [← Lib.size_eq]; omega)
      have EV := KEY.out (by rw [hke]; rfl) (by rw [hke]; rfl)
      have hzk : ¬ (k : Int) < (s.size : Int) := by omega
      clear hke KEY hA hL
      by_cases hki : k = 0
      · exfalso; omega
      · have hki' : ((k : Int) == 0) = false := by simp; omega
        go_wp2_with fail
        go_ret2
        refine ⟨ret_pair ?_ ?_, rfl⟩
        · rw [EV.out.1, if_neg hki]; omega
        · rw [EV.out.2, if_neg hki]

set_option maxHeartbeats 1000000 in
theorem whole_nil (s : ByteArray) (h0 : s.size = 0) (w : World) :
    Calls Tryz.prog 80 #[.string s] w fun e w' => e = .returned (.tuple #[.int .i64 0, .int .i64 0]) ∧ w' = w := by
  have hz : ¬ (0 : Int) < (s.size : Int) := by omega
  go_enter Tryz.func80, Tryz.ntmps80
  go_wp2_with fail
  refine wp_loop_rounds 1 ?_
  rw [rounds_succ]
  go_wp2
  go_ret2
  exact ⟨rfl, rfl⟩
end Go.Proofs.YtndgglhppoijnaaGreatDoor
/-
  What the document's reader reads, as lists of bytes.
-/
namespace Go.Proofs.YtndgglhppoijnaaGreatDoor
open Go.RowKit
open Go.Lib
set_option maxRecDepth 100000

/-- The whole number at the front of a text, and how many bytes it takes. -/
def wX (l : List UInt8) : Int := if l.head? = some 45 then wV (-1) (l.drop 1) else wV 1 (l.drop 0)
def wN (i : Nat) (l : List UInt8) : Nat := if lenW l = 0 then 0 else lenW l + i
def wL (l : List UInt8) : Nat := if l.head? = some 45 then wN 1 (l.drop 1) else wN 0 (l.drop 0)

theorem wK_cast (i : Nat) (l : List UInt8) : wK i l = (wN i l : Nat) := by
  unfold wK wN
  split
  · rfl
  · omega

theorem whole_bs (l : List UInt8) (hl : l.length ≤ 281474976710656) (w : World) :
    Calls Tryz.prog 80 #[.string (bs l)] w fun e w' => e = .returned (.tuple #[.int .i64 (wX l), .int .i64 (wL l : Nat)]) ∧ w' = w := by
  have hs := bs_size l
  cases l with
  | nil => exact whole_nil (bs []) (by rw [hs]; rfl) w
  | cons b r =>
    have h0 : 0 < (bs (b :: r)).size := by rw [hs]; simp
    have hb : (bs (b :: r))[0] = b := by simp [bs, ByteArray.getElem_eq_getElem_data]
    by_cases h45 : b = 45
    · have := whole_neg (bs (b :: r)) (by rw [hs]; exact hl) h0 (by rw [hb, h45]; rfl) _ rfl w
      rw [bs_list, wK_cast] at this
      unfold wX wL
      rw [if_pos (by rw [h45]; rfl), if_pos (by rw [h45]; rfl)]
      exact this
    · have hne : ¬ (b :: r).head? = some 45 := by simpa using h45
      have := whole_pos (bs (b :: r)) (by rw [hs]; exact hl) h0 (by
        rw [hb, beq_eq_false_iff_ne]
        intro e
        apply h45
        apply UInt8.toNat.inj
        show b.toNat = 45
        omega) _ rfl w
      rw [bs_list, wK_cast] at this
      unfold wX wL
      rw [if_neg hne, if_neg hne]
      exact this

theorem lenW_le (l : List UInt8) : lenW l ≤ l.length := by
  induction l with
  | nil => simp [lenW]
  | cons b r ih =>
    simp only [lenW]
    split
    · simp; omega
    · simp

theorem wL_le (l : List UInt8) : wL l ≤ l.length := by
  unfold wL wN
  have h0 := lenW_le (l.drop 0)
  have h1 := lenW_le (l.drop 1)
  rw [List.drop_zero] at *
  rw [List.length_drop] at h1
  repeat' split
  all_goals omega

theorem wX_abs (l : List UInt8) : (wX l).natAbs ≤ 16777217 := by
  have h0 := accW_bound (l.drop 0) 0 (by omega) (by omega)
  have h1 := accW_bound (l.drop 1) 0 (by omega) (by omega)
  unfold wX wV
  repeat' split
  all_goals omega

theorem dig_val {b : UInt8} {x : Nat} (h : digitVal b = some x) : digB b = true ∧ (b.toNat : Int) - 48 = x := by
  unfold digitVal at h
  split at h
  · rename_i hb
    simp only [Option.some.injEq] at h
    refine ⟨by unfold digB; simp; omega, by omega⟩
  · cases h

theorem decFrom_ge (d : List UInt8) : ∀ acc v, decFrom acc d = some v → acc ≤ v := by
  induction d with
  | nil => intro acc v h; simp only [decFrom, Option.some.injEq] at h; omega
  | cons b r ih =>
    intro acc v h
    simp only [decFrom] at h
    cases hb : digitVal b with
    | none => rw [hb] at h; cases h
    | some x => rw [hb] at h; have := ih _ _ h; omega

theorem read_digits (d r : List UInt8) : ∀ acc v, decFrom acc d = some v → v ≤ 16777217 → accW acc (d ++ r) = accW v r ∧ lenW (d ++ r) = d.length + lenW r := by
  induction d with
  | nil => intro acc v h _; simp only [decFrom, Option.some.injEq] at h; subst h; simp
  | cons b d ih =>
    intro acc v h hv
    simp only [decFrom] at h
    cases hb : digitVal b with
    | none => rw [hb] at h; cases h
    | some x =>
      rw [hb] at h
      obtain ⟨hd, hx⟩ := dig_val hb
      have hge := decFrom_ge _ _ _ h
      have hge2 : acc * 10 + x ≤ v := hge
      have := ih _ _ h hv
      simp only [List.cons_append, accW, lenW, List.length_cons]
      rw [if_pos hd, if_pos hd, hx]
      have e : min (10 * (acc : Int) + x) 16777217 = ((acc * 10 + x : Nat) : Int) := by omega
      rw [e]
      exact ⟨this.1, by rw [this.2]; omega⟩

/-- A text that opens with no digit. -/
def NoDig (r : List UInt8) : Prop := (∀ v, accW v r = v) ∧ lenW r = 0
theorem noDig_nil : NoDig [] := ⟨fun _ => rfl, rfl⟩
theorem noDig_cons {b : UInt8} {r : List UInt8} (h : digB b = false) : NoDig (b :: r) := ⟨fun v => by simp only [accW]; rw [h]; rfl, by simp only [lenW]; rw [h]; rfl⟩

theorem wX_itoa {n : Int} (h : n.natAbs ≤ 16777216) {r : List UInt8} (hr : NoDig r) : wX (itoa n ++ r) = n ∧ wL (itoa n ++ r) = (itoa n).length := by
  have key : ∀ u, u ≤ 16777216 → accW 0 (decDigits u ++ r) = u ∧ lenW (decDigits u ++ r) = (decDigits u).length ∧ (decDigits u).length ≠ 0 := by
    intro u hu
    have hd := decFrom_digits u 0
    rw [Nat.zero_mul, Nat.zero_add] at hd
    have := read_digits (decDigits u) r 0 u hd (by omega)
    obtain ⟨b, t, e, _⟩ := decDigits_cons u
    refine ⟨by rw [show ((0 : Nat) : Int) = 0 from rfl] at this; rw [this.1, hr.1], by rw [this.2, hr.2]; rfl, by rw [e]; simp⟩
  unfold itoa
  by_cases hn : n < 0
  · rw [if_pos hn]
    obtain ⟨k1, k2, k3⟩ := key n.natAbs h
    have e : (45 :: decDigits n.natAbs ++ r).drop 1 = decDigits n.natAbs ++ r := rfl
    have hh : (45 :: decDigits n.natAbs ++ r).head? = some 45 := rfl
    have k4 : ¬ lenW (decDigits n.natAbs ++ r) = 0 := by omega
    refine ⟨?_, ?_⟩
    · unfold wX wV
      rw [if_pos hh, e, if_neg k4, k1]
      omega
    · unfold wL wN
      rw [if_pos hh, e, if_neg k4, k2]
      simp
  · rw [if_neg hn]
    obtain ⟨k1, k2, k3⟩ := key n.toNat (by omega)
    obtain ⟨b, t, e, hb⟩ := decDigits_cons n.toNat
    have hne : ¬ (decDigits n.toNat ++ r).head? = some 45 := by
      rw [e]
      simp only [List.cons_append, List.head?_cons, Option.some.injEq]
      intro hc
      unfold isDig at hb
      rw [hc] at hb
      simp at hb
    have k4 : ¬ lenW (decDigits n.toNat ++ r) = 0 := by omega
    refine ⟨?_, ?_⟩
    · unfold wX wV
      rw [if_neg hne, List.drop_zero, if_neg k4, k1]
      omega
    · unfold wL wN
      rw [if_neg hne, List.drop_zero, if_neg k4, k2]
      rfl

/-- What is read of a text: its two parts. -/
def rst (l : List UInt8) : List UInt8 := l.drop (wL l)
def rdX (l : List UInt8) : Int := if rst l = [105] then 0 else wX l
def rdY (l : List UInt8) : Int :=
  if rst l = [105] then wX l else if rst l = [] then 0 else wX (if (rst l).head? = some 43 then (rst l).drop 1 else rst l)
/-- Is it the text of what is read of it? -/
def rdOk (l : List UInt8) : Bool := decide (wL l ≠ 0 ∧ (rdX l).natAbs ≤ 16777216 ∧ (rdY l).natAbs ≤ 16777216 ∧ txt (rdX l) (rdY l) = l)

theorem rd_txt (p q : Int) (hp : p.natAbs ≤ 16777216) (hq : q.natAbs ≤ 16777216) : rdX (txt p q) = p ∧ rdY (txt p q) = q ∧ rdOk (txt p q) = true := by
  have lp := (itoa_len hp).1
  have lq := (itoa_len hq).1
  have key : rdX (txt p q) = p ∧ rdY (txt p q) = q ∧ wL (txt p q) ≠ 0 := by
    unfold txt
    by_cases h0 : q = 0
    · rw [if_pos h0]
      have w := wX_itoa hp noDig_nil
      rw [List.append_nil] at w
      have er : rst (itoa p) = [] := by unfold rst; rw [w.2]; simp
      refine ⟨?_, ?_, by omega⟩
      · unfold rdX; rw [er, if_neg (by simp), w.1]
      · unfold rdY; rw [er, if_neg (by simp), if_pos rfl, h0]
    · rw [if_neg h0]
      by_cases h1 : p = 0
      · rw [if_pos h1]
        have w := wX_itoa (r := [105]) hq (noDig_cons (by decide))
        have er : rst (itoa q ++ [105]) = [105] := by unfold rst; rw [w.2]; simp
        refine ⟨?_, ?_, by omega⟩
        · unfold rdX; rw [er, if_pos rfl, h1]
        · unfold rdY; rw [er, if_pos rfl, w.1]
      · rw [if_neg h1]
        have wq := wX_itoa (r := [105]) hq (noDig_cons (by decide))
        by_cases h2 : 0 < q
        · rw [if_pos h2]
          have w := wX_itoa (r := 43 :: (itoa q ++ [105])) hp (noDig_cons (by decide))
          have e : itoa p ++ [43] ++ (itoa q ++ [105]) = itoa p ++ 43 :: (itoa q ++ [105]) := by simp
          rw [e]
          have er : rst (itoa p ++ 43 :: (itoa q ++ [105])) = 43 :: (itoa q ++ [105]) := by unfold rst; rw [w.2]; simp
          have hne : ¬ 43 :: (itoa q ++ [105]) = [105] := by simp
          refine ⟨?_, ?_, by omega⟩
          · unfold rdX; rw [er, if_neg hne, w.1]
          · unfold rdY; rw [er, if_neg hne, if_neg (by simp), if_pos (by rfl)]
            exact wq.1
        · rw [if_neg h2]
          have eq : itoa q = 45 :: decDigits q.natAbs := by unfold itoa; rw [if_pos (by omega)]
          have w := wX_itoa (r := itoa q ++ [105]) hp (by rw [eq]; exact noDig_cons (by decide))
          have er : rst (itoa p ++ (itoa q ++ [105])) = itoa q ++ [105] := by unfold rst; rw [w.2]; simp
          have hne : ¬ itoa q ++ [105] = [105] := by rw [eq]; simp
          refine ⟨?_, ?_, by omega⟩
          · unfold rdX; rw [er, if_neg hne, w.1]
          · unfold rdY; rw [er, if_neg hne, if_neg (by simp), if_neg (by rw [eq]; simp)]
            exact wq.1
  refine ⟨key.1, key.2.1, ?_⟩
  unfold rdOk
  rw [key.1, key.2.1]
  exact decide_eq_true ⟨key.2.2, hp, hq, rfl⟩
end Go.Proofs.YtndgglhppoijnaaGreatDoor
