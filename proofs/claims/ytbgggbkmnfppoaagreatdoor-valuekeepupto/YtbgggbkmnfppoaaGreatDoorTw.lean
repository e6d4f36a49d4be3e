/-
  The walks of Text and Parse at the texts of numbers.
-/
import Derived.Test.YtbgggbkmnfppoaaGreatDoorLa
import Derived.Lib.AppendIntMem
import Derived.Lib.AtoiErrMem
import Derived.Lib.SmallJoins
import Derived.Deep.QuietTactic
import Derived.BigQuiet
namespace Go.Proofs.YtbgggbkmnfppoaaGreatDoor
open Go.RowKit
open Go.Lib
set_option maxRecDepth 100000

/-- A text of bytes. -/
def bs (l : List UInt8) : ByteArray := ⟨l.toArray⟩

theorem bs_size (l : List UInt8) : (bs l).size = l.length := by simp [bs, ByteArray.size]
theorem bs_list (l : List UInt8) : (bs l).data.toList = l := by simp [bs]
theorem bs_app (a b : List UInt8) : bs a ++ bs b = bs (a ++ b) := by
  apply ByteArray.ext
  simp [bs, ByteArray.data_append]

/-- The library's table of powers lies in memory. -/
def Tab (w : World) : Prop := Lib.TabIs Tryz.prog w "internal/strconv.uint64pow10" .u64 Lib.pow10Tab

theorem tab_keep {w w' : World} (h : Tab w) (hb : Below w.heap.size w w') : Tab w' :=
  Joins.tab_stays (show Tryz.prog.globalNamed "internal/strconv.uint64pow10" = some 4 by kernel_rfl) h hb (Nat.le_refl _)

theorem itoa_w (n : Int) (w : World) (ht : Tab w) (h : n.natAbs ≤ 16777216) :
    Calls Tryz.prog 43 #[.int .i64 n] w fun e w' => e = .returned (.string (bs (itoa n))) ∧ Below w.heap.size w w' := by
  refine (Tryz.strconv_Itoa n (by omega) (by omega) w ht).mono ?_
  rintro e w' ⟨rfl, k, os, rfl⟩
  exact ⟨rfl, Lib.below_grow _ _ (Nat.le_refl _) k os⟩

theorem la_any (s : ByteArray) (hs : s.size < 4294967281) (hA : ∀ (j : Nat) (hj : j < s.size), (s[j]'hj).toNat < 128) (w : World) :
    Calls Tryz.prog 66 #[.string s, .string signs] w fun e w' => e = .returned (.int .i64 (lastS s.data.toList)) ∧ Below w.heap.size w w' := by
  by_cases h1 : s.size = 1
  · refine (la_one s (s[0]'(by omega)) h1 rfl (hA 0 (by omega)) w).mono ?_
    rintro e w' ⟨rfl, rfl⟩
    refine ⟨?_, Below.refl _ _⟩
    have hl : s.data.toList = [s[0]'(by omega)] := by
      have := take_snoc s 0 (by omega)
      rw [List.take_of_length_le (by rw [← Lib.size_eq]; omega)] at this
      simpa using this
    rw [hl]
    simp [lastS]
  · by_cases h8 : s.size ≤ 8
    · refine (la_short s h1 h8 hA w).mono ?_
      rintro e w' ⟨rfl, rfl⟩
      exact ⟨rfl, Below.refl _ _⟩
    · exact la_long s (by omega) (by omega) w

set_option maxHeartbeats 1000000 in
theorem text_a (p : Int) (w : World) (ht : Tab w) (hp : p.natAbs ≤ 16777216) :
    Calls Tryz.prog 23 #[.complex .f64 (fl p) (fl 0)] w fun e w' => e = .returned (.tuple #[.string (bs (itoa p)), .int .i64 0]) ∧ Below w.heap.size w w' := by
  go_enter Tryz.func23, Tryz.ntmps23
  go_wp2_with fail
  refine (parts_any p 0 _ hp (by decide)).mono ?_
  rintro e w' ⟨rfl, rfl⟩
  go_wp2_with fail
  refine (itoa_w p _ ht hp).mono ?_
  rintro e w1 ⟨rfl, hb⟩
  go_wp2_with fail
  go_ret2
  exact ⟨rfl, hb⟩

set_option maxHeartbeats 1000000 in
theorem text_b (q : Int) (w : World) (ht : Tab w) (h0 : ¬ q = 0) (hq : q.natAbs ≤ 16777216) :
    Calls Tryz.prog 23 #[.complex .f64 (fl 0) (fl q)] w fun e w' => e = .returned (.tuple #[.string (bs (itoa q ++ [105])), .int .i64 0]) ∧ Below w.heap.size w w' := by
  have hz := (itoa_len hq).2
  have hsz : (bs (itoa q)).size ≤ 9 := by rw [bs_size]; exact hz
  clear hz
  go_enter Tryz.func23, Tryz.ntmps23
  go_wp2_with fail
  refine (parts_any 0 q _ (by decide) hq).mono ?_
  rintro e w' ⟨rfl, rfl⟩
  go_wp2_with fail
  refine (itoa_w q _ ht hq).mono ?_
  rintro e w1 ⟨rfl, hb⟩
  go_wp2_with fail
  go_ret2
  refine ⟨?_, hb⟩
  rw [← bs_app]; rfl

set_option maxHeartbeats 1000000 in
theorem text_c (p q : Int) (w : World) (ht : Tab w) (h0 : ¬ p = 0) (h1 : 0 < q) (hp : p.natAbs ≤ 16777216) (hq : q.natAbs ≤ 16777216) :
    Calls Tryz.prog 23 #[.complex .f64 (fl p) (fl q)] w fun e w' => e = .returned (.tuple #[.string (bs (itoa p ++ [43] ++ (itoa q ++ [105]))), .int .i64 0]) ∧ Below w.heap.size w w' := by
  have hz := (itoa_len hq).2
  have hy := (itoa_len hp).2
  have hsz : (bs (itoa q)).size ≤ 9 := by rw [bs_size]; exact hz
  have hsy : (bs (itoa p)).size ≤ 9 := by rw [bs_size]; exact hy
  have hq0 : ¬ q = 0 := by omega
  clear hz hy
  go_enter Tryz.func23, Tryz.ntmps23
  go_wp2_with fail
  refine (parts_any p q _ hp hq).mono ?_
  rintro e w' ⟨rfl, rfl⟩
  go_wp2_with fail
  refine (itoa_w q _ ht hq).mono ?_
  rintro e w1 ⟨rfl, hb⟩
  have ht1 := tab_keep ht hb
  go_wp2_with fail
  refine (itoa_w p _ ht1 hp).mono ?_
  rintro e w2 ⟨rfl, hb2⟩
  go_wp2_with fail
  go_ret2
  refine ⟨?_, hb.trans (hb2.mono hb.size)⟩
  rw [← bs_app, ← bs_app, ← bs_app]; rfl

set_option maxHeartbeats 1000000 in
theorem text_d (p q : Int) (w : World) (ht : Tab w) (h0 : ¬ p = 0) (h1 : q < 0) (hp : p.natAbs ≤ 16777216) (hq : q.natAbs ≤ 16777216) :
    Calls Tryz.prog 23 #[.complex .f64 (fl p) (fl q)] w fun e w' => e = .returned (.tuple #[.string (bs (itoa p ++ (itoa q ++ [105]))), .int .i64 0]) ∧ Below w.heap.size w w' := by
  have hz := (itoa_len hq).2
  have hy := (itoa_len hp).2
  have hsz : (bs (itoa q)).size ≤ 9 := by rw [bs_size]; exact hz
  have hsy : (bs (itoa p)).size ≤ 9 := by rw [bs_size]; exact hy
  have hq0 : ¬ q = 0 := by omega
  clear hz hy
  go_enter Tryz.func23, Tryz.ntmps23
  go_wp2_with fail
  refine (parts_any p q _ hp hq).mono ?_
  rintro e w' ⟨rfl, rfl⟩
  go_wp2_with fail
  refine (itoa_w q _ ht hq).mono ?_
  rintro e w1 ⟨rfl, hb⟩
  have ht1 := tab_keep ht hb
  go_wp2_with fail
  refine (itoa_w p _ ht1 hp).mono ?_
  rintro e w2 ⟨rfl, hb2⟩
  go_wp2_with fail
  go_ret2
  refine ⟨?_, hb.trans (hb2.mono hb.size)⟩
  rw [← bs_app, ← bs_app]; rfl

theorem text_w (p q : Int) (w : World) (ht : Tab w) (hp : p.natAbs ≤ 16777216) (hq : q.natAbs ≤ 16777216) :
    Calls Tryz.prog 23 #[.complex .f64 (fl p) (fl q)] w fun e w' => e = .returned (.tuple #[.string (bs (txt p q)), .int .i64 0]) ∧ Below w.heap.size w w' := by
  unfold txt
  by_cases h0 : q = 0
  · rw [if_pos h0]; subst h0; exact text_a p w ht hp
  · rw [if_neg h0]
    by_cases h1 : p = 0
    · rw [if_pos h1]; subst h1; exact text_b q w ht h0 hq
    · rw [if_neg h1]
      by_cases h2 : 0 < q
      · rw [if_pos h2]; exact text_c p q w ht h1 h2 hp hq
      · rw [if_neg h2]; exact text_d p q w ht h1 (by omega) hp hq

theorem cut_i (body : List UInt8) : Lib.trimSuffix (body ++ [105]) [105] = body ∧ Lib.hasSuffix (body ++ [105]) [105] = true := by
  have h : Lib.hasSuffix (body ++ [105]) [105] = true := by
    unfold Lib.hasSuffix
    rw [List.isSuffixOf_iff_suffix]
    exact List.suffix_append _ _
  refine ⟨?_, h⟩
  unfold Lib.trimSuffix
  rw [h]
  simp

theorem no_i {l : List UInt8} (h : ∀ b ∈ l, b ≠ 105) : Lib.hasSuffix l [105] = false := by
  rw [Bool.eq_false_iff]
  intro hc
  unfold Lib.hasSuffix at hc
  rw [List.isSuffixOf_iff_suffix] at hc
  obtain ⟨t, ht⟩ := hc
  exact h 105 (by rw [← ht]; simp) rfl

theorem cut_yes (body : List UInt8) (hl : body.length < 1000) (w : World) :
    Calls Tryz.prog 49 #[.string (bs (body ++ [105])), .string ⟨#[105]⟩] w fun e w' => e = .returned (.tuple #[.string (bs body), .bool true]) ∧ w' = w := by
  have := Tryz.strings_CutSuffix (bs (body ++ [105])) ⟨#[105]⟩ w (by rw [bs_size]; simp; omega)
  rw [bs_list] at this
  have e : (⟨#[105]⟩ : ByteArray).data.toList = [105] := rfl
  rw [e, (cut_i body).1, (cut_i body).2] at this
  exact this

theorem cut_no (l : List UInt8) (hl : l.length < 1000) (h : ∀ b ∈ l, b ≠ 105) (w : World) :
    Calls Tryz.prog 49 #[.string (bs l), .string ⟨#[105]⟩] w fun e w' => e = .returned (.tuple #[.string (bs l), .bool false]) ∧ w' = w := by
  have := Tryz.strings_CutSuffix (bs l) ⟨#[105]⟩ w (by rw [bs_size]; omega)
  rw [bs_list] at this
  have e : (⟨#[105]⟩ : ByteArray).data.toList = [105] := rfl
  have e2 : Lib.trimSuffix l [105] = l := by unfold Lib.trimSuffix; rw [no_i h]; rfl
  rw [e, no_i h, e2] at this
  exact this

set_option maxHeartbeats 400000 in
theorem halves_no (l : List UInt8) (hl : l.length < 1000) (h : ∀ b ∈ l, b ≠ 105) (w : World) :
    Calls Tryz.prog 51 #[.string (bs l)] w fun e w' => e = .returned (.tuple #[.string (bs l), .string ⟨#[48]⟩]) ∧ w' = w := by
  go_enter Tryz.func51, Tryz.ntmps51
  go_wp2_with fail
  refine (cut_no l hl h _).mono ?_
  rintro e w' ⟨rfl, rfl⟩
  go_wp2_with fail
  go_ret2
  exact ⟨rfl, rfl⟩

theorem la_bs (l : List UInt8) (hl : l.length < 1000) (hA : ∀ b ∈ l, b.toNat < 128) (w : World) :
    Calls Tryz.prog 66 #[.string (bs l), .string ⟨#[43, 45]⟩] w fun e w' => e = .returned (.int .i64 (lastS l)) ∧ Below w.heap.size w w' := by
  have := la_any (bs l) (by rw [bs_size]; omega) (by
    intro j hj
    apply hA
    have : (bs l)[j] = l[j]'(by rw [bs_size] at hj; exact hj) := by simp [bs, ByteArray.getElem_eq_getElem_data]
    rw [this]
    exact List.getElem_mem _) w
  rw [bs_list] at this
  exact this

set_option maxHeartbeats 400000 in
theorem halves_le (l : List UInt8) (hl : l.length < 900) (hA : ∀ b ∈ l, b.toNat < 128) (hk : lastS l ≤ 0) (w : World) :
    Calls Tryz.prog 51 #[.string (bs (l ++ [105]))] w fun e w' => e = .returned (.tuple #[.string ⟨#[48]⟩, .string (bs l)]) ∧ Below w.heap.size w w' := by
  go_enter Tryz.func51, Tryz.ntmps51
  go_wp2_with fail
  refine (cut_yes l (by omega) _).mono ?_
  rintro e w' ⟨rfl, rfl⟩
  go_wp2_with fail
  refine (la_bs l (by omega) hA _).mono ?_
  rintro e w1 ⟨rfl, hb⟩
  go_wp2_with fail
  go_ret2
  exact ⟨rfl, hb⟩

theorem bs_extract (l : List UInt8) (a b : Nat) : (bs l).extract a b = bs ((l.drop a).take (b - a)) := by
  apply ByteArray.ext
  apply Array.ext'
  have := Lib.extract_toList (bs l) a b
  rw [bs_list] at this
  rw [Lib.toList_data] at this
  rw [this, bs_list]

set_option maxHeartbeats 1000000 in
theorem halves_gt (l : List UInt8) (k : Nat) (hl : l.length < 900) (hA : ∀ b ∈ l, b.toNat < 128) (h0 : 0 < k) (hk : lastS l = k) (w : World) :
    Calls Tryz.prog 51 #[.string (bs (l ++ [105]))] w fun e w' => e = .returned (.tuple #[.string (bs (l.take k)), .string (bs (l.drop k))]) ∧ Below w.heap.size w w' := by
  have hkl : k < l.length := by have := (lastS_ge l).2; omega
  have hsz := bs_size l
  have hc := la_bs l (by omega) hA
  rw [hk] at hc
  have HC : Hid (∀ w, Calls Tryz.prog 66 #[.string (bs l), .string ⟨#[43, 45]⟩] w fun e w' => e = .returned (.int .i64 (k : Int)) ∧ Below w.heap.size w w') := hc
  have hk1 : ¬ (k : Int) ≤ 0 := by omega
  have hk2 : (k : Int) ≤ ((bs l).size : Int) := by omega
  clear hc hk hA
  go_enter Tryz.func51, Tryz.ntmps51
  go_wp2_with fail
  refine (cut_yes l (by omega) _).mono ?_
  rintro e w' ⟨rfl, rfl⟩
  go_wp2_with fail
  refine (HC.out _).mono ?_
  rintro e w1 ⟨rfl, hb⟩
  go_wp2_with fail
  go_quiet (fail)
  go_wp2
  go_ret2
  refine ⟨?_, below_drewN hb _⟩
  have e1 : (bs l).extract 0 k = bs (l.take k) := by rw [bs_extract]; simp
  have e2 : (bs l).extract k l.length = bs (l.drop k) := by rw [bs_extract, List.take_of_length_le (by simp)]
  show Ending.returned (.tuple #[.string ((bs l).extract 0 k), .string ((bs l).extract k l.length)]) = _
  rw [e1, e2]

theorem atoi_w (l : List UInt8) (n : Int) (hl : l.length ≤ 18) (h : Lib.atoi l = some n) (w : World) :
    Calls Tryz.prog 52 #[.string (bs l)] w fun e w' => e = .returned (.tuple #[.int .i64 n, .nilIface]) ∧ Below w.heap.size w w' := by
  refine (Tryz.strconv_Atoi (bs l) n (by rw [bs_size]; exact hl) (by rw [bs_list]; exact h) w).mono ?_
  rintro e w' ⟨rfl, t, rfl⟩
  exact ⟨rfl, Lib.bytesWorld_below _ _ _⟩

set_option maxHeartbeats 1000000 in
theorem parse_of (p q : Int) (re im : List UInt8) (w : World) (ht : Tab w) (hp : p.natAbs ≤ 16777216) (hq : q.natAbs ≤ 16777216)
    (HH : Hid (∀ w, Calls Tryz.prog 51 #[.string (bs (txt p q))] w fun e w' => e = .returned (.tuple #[.string (bs re), .string (bs im)]) ∧ Below w.heap.size w w'))
    (h1 : Hid (Lib.atoi re = some p)) (h2 : Hid (Lib.atoi im = some q)) (l1 : re.length ≤ 18) (l2 : im.length ≤ 18) :
    Calls Tryz.prog 31 #[.string (bs (txt p q))] w fun e w' => e = .returned (.tuple #[.complex .f64 (fl p) (fl q), .int .i64 0]) ∧ Below w.heap.size w w' := by
  go_enter Tryz.func31, Tryz.ntmps31
  go_wp2_with fail
  refine (HH.out _).mono ?_
  rintro e w1 ⟨rfl, hb1⟩
  go_wp2_with fail
  refine (atoi_w re p l1 h1.out _).mono ?_
  rintro e w2 ⟨rfl, hb2⟩
  have hb2 := hb1.trans (hb2.mono hb1.size)
  clear hb1
  go_wp2_with fail
  refine (atoi_w im q l2 h2.out _).mono ?_
  rintro e w3 ⟨rfl, hb3⟩
  have hb3 := hb2.trans (hb3.mono hb2.size)
  clear hb2
  go_wp2_with fail
  refine (make_yes p q _ hp hq).mono ?_
  rintro e w' ⟨rfl, rfl⟩
  have ht3 := tab_keep ht hb3
  go_wp2_with fail
  refine (text_w p q _ ht3 hp hq).mono ?_
  rintro e w4 ⟨rfl, hb4⟩
  go_wp2_with fail
  go_ret2
  exact ⟨rfl, hb3.trans (hb4.mono hb3.size)⟩

theorem itoa_bytes (n : Int) : ∀ b ∈ itoa n, b.toNat < 128 ∧ b ≠ 105 := by
  intro b hb
  have hd : ∀ u, ∀ b ∈ decDigits u, b.toNat < 128 ∧ b ≠ 105 := by
    intro u b hb
    have := decDigits_dig u b hb
    unfold isDig at this
    refine ⟨by omega, ?_⟩
    intro hc
    rw [hc] at this
    simp at this
  unfold itoa at hb
  split at hb
  · rcases List.mem_cons.1 hb with rfl | hb
    · decide
    · exact hd _ b hb
  · exact hd _ b hb

theorem lastS_itoa_pos {n : Int} (h : 0 ≤ n) : lastS (itoa n) = -1 := by
  unfold itoa
  rw [if_neg (by omega)]
  exact lastS_digits (decDigits_dig _)

theorem lastS_itoa_neg {n : Int} (h : n < 0) : lastS (itoa n) = 0 := by
  unfold itoa
  rw [if_pos h]
  have := lastS_append (l := []) (decDigits_dig n.natAbs) 45 (by decide)
  simpa using this

theorem parse_w (p q : Int) (w : World) (ht : Tab w) (hp : p.natAbs ≤ 16777216) (hq : q.natAbs ≤ 16777216) :
    Calls Tryz.prog 31 #[.string (bs (txt p q))] w fun e w' => e = .returned (.tuple #[.complex .f64 (fl p) (fl q), .int .i64 0]) ∧ Below w.heap.size w w' := by
  have lp := itoa_len hp
  have lq := itoa_len hq
  by_cases h0 : q = 0
  · subst h0
    refine parse_of p 0 (itoa p) [48] w ht hp hq ?_ (atoi_itoa p) (by have := atoi_itoa 0; rw [itoa_zero] at this; exact this) (by omega) (by decide)
    intro w
    unfold txt
    rw [if_pos rfl]
    refine (halves_no (itoa p) (by omega) (fun b hb => (itoa_bytes p b hb).2) w).mono ?_
    rintro e w' ⟨rfl, rfl⟩
    exact ⟨rfl, Below.refl _ _⟩
  · by_cases h1 : p = 0
    · subst h1
      refine parse_of 0 q [48] (itoa q) w ht hp hq ?_ (by have := atoi_itoa 0; rw [itoa_zero] at this; exact this) (atoi_itoa q) (by decide) (by omega)
      intro w
      unfold txt
      rw [if_neg h0, if_pos rfl]
      refine halves_le (itoa q) (by omega) (fun b hb => (itoa_bytes q b hb).1) ?_ w
      by_cases hq0 : 0 ≤ q
      · rw [lastS_itoa_pos hq0]; decide
      · rw [lastS_itoa_neg (by omega)]; decide
    · by_cases h2 : 0 < q
      · refine parse_of p q (itoa p) (43 :: itoa q) w ht hp hq ?_ (atoi_itoa p) (atoi_plus (by omega)) (by omega) (by simp; omega)
        intro w
        unfold txt
        rw [if_neg h0, if_neg h1, if_pos h2]
        have e : itoa p ++ [43] ++ (itoa q ++ [105]) = (itoa p ++ 43 :: itoa q) ++ [105] := by simp
        have hd : ∀ b ∈ itoa q, isDig b := by unfold itoa; rw [if_neg (by omega)]; exact decDigits_dig _
        rw [e]
        have := halves_gt (itoa p ++ 43 :: itoa q) (itoa p).length (by simp; omega) (by
          intro b hb
          rcases List.mem_append.1 hb with hb | hb
          · exact (itoa_bytes p b hb).1
          · rcases List.mem_cons.1 hb with rfl | hb
            · decide
            · exact (itoa_bytes q b hb).1) (by omega) (lastS_append hd 43 (by decide)) w
        rw [List.take_left, List.drop_left] at this
        exact this
      · refine parse_of p q (itoa p) (itoa q) w ht hp hq ?_ (atoi_itoa p) (atoi_itoa q) (by omega) (by omega)
        intro w
        unfold txt
        rw [if_neg h0, if_neg h1, if_neg h2]
        have eq : itoa q = 45 :: decDigits q.natAbs := by unfold itoa; rw [if_pos (by omega)]
        have e : itoa p ++ (itoa q ++ [105]) = (itoa p ++ itoa q) ++ [105] := by simp
        rw [e]
        have hlast : lastS (itoa p ++ itoa q) = ((itoa p).length : Nat) := by rw [eq]; exact lastS_append (decDigits_dig _) 45 (by decide)
        have := halves_gt (itoa p ++ itoa q) (itoa p).length (by simp; omega) (by
          intro b hb
          rcases List.mem_append.1 hb with hb | hb
          · exact (itoa_bytes p b hb).1
          · exact (itoa_bytes q b hb).1) (by omega) hlast w
        rw [List.take_left, List.drop_left] at this
        exact this
end Go.Proofs.YtbgggbkmnfppoaaGreatDoor
