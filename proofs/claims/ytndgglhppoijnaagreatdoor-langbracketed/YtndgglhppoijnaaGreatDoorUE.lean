/-
  2 texts in one: what each proves stands at its head.
-/
import Derived.Test.YtndgglhppoijnaaGreatDoorUD
import Derived.Test.YtndgglhppoijnaaGreatDoorRx
import Derived.Lib.TrimU
/-
  The walks of strings.LastIndexAny, strconv.Atoi, halves and Parse at every text.
-/
namespace Go.Proofs.YtndgglhppoijnaaGreatDoor
open Go.RowKit
open Go.Lib
set_option maxRecDepth 100000

/-- What of the library lies in memory: the tables that decode bytes, the powers of ten, the two errors. -/
structure Env (w : World) : Prop where
  tab : Tab w
  utf : Lib.Utf8Tabs 5 6 w
  syn : ∃ te pe, w.cell? ⟨2, 0, none⟩ = some (.iface te pe)
  ran : ∃ te pe, w.cell? ⟨3, 0, none⟩ = some (.iface te pe)

theorem env_keep {w w' : World} (h : Env w) (hb : Below w.heap.size w w') : Env w' :=
  ⟨tab_keep h.tab hb, Utf8Tabs_below h.utf hb, h.syn.imp fun _ hx => hx.imp fun _ hy => keep hb hy, h.ran.imp fun _ hx => hx.imp fun _ hy => keep hb hy⟩

theorem ir_any (r : Nat) (h1 : r ≤ 1114111) (w : World) :
    Calls Tryz.prog 116 #[.string signs, .int .i32 r] w fun e w' => ∃ i : Int, e = .returned (.int .i64 i) ∧ Below w.heap.size w w' := by
  by_cases h : r < 128
  · have := idx_rune (UInt8.ofNat r) (by simp; omega) w
    have e : (UInt8.ofNat r).toNat = r := by simp; omega
    rw [e] at this
    refine this.mono ?_
    rintro e w' ⟨rfl, rfl⟩
    exact ⟨_, rfl, Below.refl _ _⟩
  · refine (ir_high r (by omega) h1 w).mono ?_
    rintro e w' ⟨rfl, hb⟩
    exact ⟨_, rfl, hb⟩

theorem decode_w (s : ByteArray) (h0 : 0 < s.size) (hs : s.size ≤ 281474976710656) (w : World) (hE : Env w) :
    Calls Tryz.prog 120 #[.string s] w fun e w' => ∃ r n : Nat, e = .returned (.tuple #[.int .i32 r, .int .i64 n]) ∧ r ≤ 1114111 ∧ 1 ≤ n ∧ n ≤ s.size ∧ Below w.heap.size w w' := by
  refine (Tryz.utf8_DecodeLastRuneInString s w (by omega) hE.utf).mono ?_
  rintro e w' ⟨rfl, hb⟩
  have hw := decodeLastL_width s.data.toList (by rw [← Lib.size_eq]; exact h0)
  rw [← Lib.size_eq] at hw
  exact ⟨_, _, rfl, decodeLastL_rune _, hw.1, hw.2, hb⟩

set_option maxHeartbeats 400000 in
theorem lb_one (s : ByteArray) (hs : s.size = 1) (w : World) :
    Calls Tryz.prog 98 #[.string s, .string signs] w fun e w' => ∃ i : Int, e = .returned (.int .i64 i) ∧ -1 ≤ i ∧ i < s.size ∧ Below w.heap.size w w' := by
  have h0 : 0 < s.size := by omega
  have h1 : ((s.size : Int) == 1) = true := by rw [beq_iff_eq]; omega
  have hb := s[0].toNat_lt
  by_cases h128 : s[0].toNat < 128
  · have hz : ¬ (128 : Int) ≤ (s[0].toNat : Int) := by omega
    go_enter Tryz.func98, Tryz.ntmps98
    go_wp2_with fail
    refine (ir_any s[0].toNat (by omega) _).mono ?_
    rintro e w' ⟨i, rfl, hb⟩
    by_cases hi : 0 ≤ i
    · go_wp2_with fail
      go_ret
      exact ⟨_, rfl, by omega, by omega, hb⟩
    · go_wp2_with fail
      go_ret
      exact ⟨_, rfl, by omega, by omega, hb⟩
  · have hz : (128 : Int) ≤ (s[0].toNat : Int) := by omega
    go_enter Tryz.func98, Tryz.ntmps98
    go_wp2_with fail
    refine (ir_any 65533 (by omega) _).mono ?_
    rintro e w' ⟨i, rfl, hb⟩
    by_cases hi : 0 ≤ i
    · go_wp2_with fail
      go_ret
      exact ⟨_, rfl, by omega, by omega, hb⟩
    · go_wp2_with fail
      go_ret
      exact ⟨_, rfl, by omega, by omega, hb⟩

set_option maxHeartbeats 1000000 in
theorem lb_short (s : ByteArray) (hne : s.size ≠ 1) (h8 : s.size ≤ 8) (w : World) (hE : Env w) :
    Calls Tryz.prog 98 #[.string s, .string signs] w fun e w' => ∃ i : Int, e = .returned (.int .i64 i) ∧ -1 ≤ i ∧ i < s.size ∧ Below w.heap.size w w' := by
  have h1 : ((s.size : Int) == 1) = false := by rw [beq_eq_false_iff_ne]; omega
  have h8z : decide ((8 : Int) < (s.size : Int)) = false := decide_eq_false (by omega)
  go_enter Tryz.func98, Tryz.ntmps98
  go_wp2_with (go_at_call 117; refine (Tryz.strings_shouldUseASCIISet _ _).mono ?_; rintro e w' ⟨rfl, hw'⟩; rw [hw', h8z]; clear hw')
  go_loopw [13] (fun i W => ∃ k : Nat, k ≤ s.size ∧ i = .int .i64 k ∧ Below w.heap.size w W ∧ Env W) (fun i _ => (RowKit.intOf i).toNat)
  case atStart => exact ⟨s.size, Nat.le_refl _, rfl, Below.refl _ _, hE⟩
  case round =>
    obtain ⟨k, hk, rfl, hB, hEW⟩ := hrel
    cases k with
    | zero =>
      go_wp2
      go_ret
      exact ⟨_, rfl, by omega, by omega, hB⟩
    | succ k =>
      have hlt : k < s.size := by omega
      go_wp2_with fail
      refine (decode_w _ (by simp [ByteArray.size_extract]; omega) (by simp [ByteArray.size_extract]; omega) _ hEW).mono ?_
      rintro e w1 ⟨r, n, rfl, hr, n1, n2, hb1⟩
      have n3 : n ≤ k + 1 := by simp [ByteArray.size_extract] at n2; omega
      have hB1 := hB.trans (hb1.mono hB.size)
      have hE1 := env_keep hEW hb1
      clear n2 hb1 hEW hB
      go_wp2_with fail
      refine (ir_any r hr _).mono ?_
      rintro e w2 ⟨i, rfl, hb2⟩
      have hB2 := hB1.trans (hb2.mono hB1.size)
      have hE2 := env_keep hE1 hb2
      clear hb2 hE1 hB1
      have ek : ((k + 1 : Nat) : Int) - (n : Int) = ((k + 1 - n : Nat) : Int) := by omega
      by_cases hi : 0 ≤ i
      · go_wp2_with fail
        go_ret
        exact ⟨_, rfl, by omega, by omega, hB2⟩
      · go_wp2_with fail
        go_roundw
        case rel => exact ⟨k + 1 - n, by omega, by go_num, hB2, hE2⟩
        case measure => simp [RowKit.intOf]; omega

theorem lb_any (l : List UInt8) (hl : l.length ≤ 281474976710656) (w : World) (hE : Env w) :
    Calls Tryz.prog 98 #[.string (bs l), .string ⟨#[43, 45]⟩] w fun e w' => ∃ i : Int, e = .returned (.int .i64 i) ∧ -1 ≤ i ∧ i < l.length ∧ Below w.heap.size w w' := by
  have hz := bs_size l
  rw [← hz]
  rw [← hz] at hl
  by_cases h1 : (bs l).size = 1
  · exact lb_one _ h1 w
  · by_cases h8 : (bs l).size ≤ 8
    · exact lb_short _ h1 h8 w hE
    · refine (la_long (bs l) (by omega) hl w).mono ?_
      rintro e w' ⟨rfl, hb⟩
      have h := lastS_ge (bs l).data.toList
      rw [← Lib.size_eq] at h
      exact ⟨_, rfl, h.1, h.2, hb⟩

theorem cut_any (l : List UInt8) (hl : l.length ≤ 281474976710656) (w : World) :
    Calls Tryz.prog 97 #[.string (bs l), .string ⟨#[105]⟩] w fun e w' => ∃ (b : List UInt8) (c : Bool), e = .returned (.tuple #[.string (bs b), .bool c]) ∧ b.length ≤ l.length ∧ w' = w := by
  refine (Tryz.strings_CutSuffix (bs l) ⟨#[105]⟩ w (by rw [bs_size]; omega)).mono ?_
  rintro e w' ⟨rfl, rfl⟩
  refine ⟨_, _, rfl, ?_, rfl⟩
  rw [bs_list]
  unfold Lib.trimSuffix
  split
  · simp
  · exact Nat.le_refl _

set_option maxHeartbeats 1000000 in
theorem halves_any (l : List UInt8) (hl : l.length ≤ 281474976710656) (w : World) (hE : Env w) :
    Calls Tryz.prog 67 #[.string (bs l)] w fun e w' => ∃ re im : List UInt8, e = .returned (.tuple #[.string (bs re), .string (bs im)]) ∧ re.length ≤ 281474976710656 ∧ im.length ≤ 281474976710656 ∧ Below w.heap.size w w' := by
  go_enter Tryz.func67, Tryz.ntmps67
  go_wp2_with fail
  refine (cut_any l hl _).mono ?_
  rintro e w' ⟨b, c, rfl, hb, rfl⟩
  cases c with
  | false =>
    go_wp2_with fail
    go_ret2
    exact ⟨l, [48], rfl, hl, by simp, Below.refl _ _⟩
  | true =>
    go_wp2_with fail
    refine (lb_any b (by omega) _ hE).mono ?_
    rintro e w1 ⟨i, rfl, i0, i1, hb1⟩
    by_cases hi : i ≤ 0
    · go_wp2_with fail
      go_ret2
      exact ⟨[48], b, rfl, by simp, by omega, hb1⟩
    · obtain ⟨k, rfl⟩ : ∃ k : Nat, i = k := ⟨i.toNat, by omega⟩
      have hsz := bs_size b
      have hk2 : (k : Int) ≤ ((bs b).size : Int) := by omega
      go_wp2_with fail
      go_quiet (fail)
      go_wp2
      go_ret2
      refine ⟨b.take k, b.drop k, ?_, by simp; omega, by simp; omega, below_drewN hb1 _⟩
      have e1 : (bs b).extract 0 k = bs (b.take k) := by rw [bs_extract]; simp
      have e2 : (bs b).extract k b.length = bs (b.drop k) := by rw [bs_extract, List.take_of_length_le (by simp)]
      show Ending.returned (.tuple #[.string ((bs b).extract 0 k), .string ((bs b).extract k b.length)]) = _
      rw [e1, e2]

theorem atoi_any (l : List UInt8) (hl : l.length ≤ 281474976710656) (w : World) (hE : Env w) :
    Calls Tryz.prog 68 #[.string (bs l)] w fun e w' => (∃ (n : Int) (v : Value), e = .returned (.tuple #[.int .i64 n, v]) ∧ (v = .nilIface ∨ ∃ t p, v = .iface t p)) ∧ Below w.heap.size w w' := by
  have hz := bs_size l
  obtain ⟨te, pe, hS⟩ := hE.syn
  obtain ⟨tr, pr, hR⟩ := hE.ran
  rcases h : Lib.atoiAll (bs l).data.toList with v | _ | _
  · refine (Tryz.strconv_Atoi_ok (bs l) (by omega) v h w).mono ?_
    rintro e w' ⟨rfl, hb⟩
    refine ⟨⟨_, _, rfl, Or.inl rfl⟩, ?_⟩
    rcases hb with rfl | ⟨t, rfl⟩
    · exact Below.refl _ _
    · exact Lib.bytesWorld_below _ _ _
  · refine (Any.strconv_Atoi_syntax Tryz.laysC172 (bs l) (by omega) h _ w hS (Or.inr ⟨te, pe, rfl⟩)).mono ?_
    rintro e w' ⟨N, rfl, _, _, hb⟩
    exact ⟨⟨_, _, rfl, Or.inr ⟨_, _, rfl⟩⟩, hb⟩
  · refine (Any.strconv_Atoi_range Tryz.laysC172 (bs l) (by omega) h _ w hR (Or.inr ⟨tr, pr, rfl⟩)).mono ?_
    rintro e w' ⟨N, rfl, _, _, hb⟩
    exact ⟨⟨_, _, rfl, Or.inr ⟨_, _, rfl⟩⟩, hb⟩
end Go.Proofs.YtndgglhppoijnaaGreatDoor
/-
  The walk of Parse at a text that no number has, and of Text at what is no number.
-/
namespace Go.Proofs.YtndgglhppoijnaaGreatDoor
open Go.RowKit
open Go.Lib
set_option maxRecDepth 100000

set_option maxHeartbeats 1000000 in
theorem parse_no (l : List UInt8) (hl : l.length ≤ 281474976710656) (hn : Hid (∀ p q : Int, p.natAbs ≤ 16777216 → q.natAbs ≤ 16777216 → ((bs (txt p q)).toList == (bs l).toList) = false)) (w : World) (hE : Env w) :
    Calls Tryz.prog 46 #[.string (bs l)] w fun e w' => e = .returned (.tuple #[.complex .f64 0 0, .int .i64 10]) ∧ Below w.heap.size w w' := by
  go_enter Tryz.func46, Tryz.ntmps46
  go_wp2_with fail
  refine (halves_any l hl _ hE).mono ?_
  rintro e w1 ⟨re, im, rfl, hre, him, hb1⟩
  have hE1 := env_keep hE hb1
  clear hE hl
  go_wp2_with fail
  refine (atoi_any re hre _ hE1).mono ?_
  rintro e w2 ⟨⟨x, v, rfl, hv⟩, hb2⟩
  have hE2 := env_keep hE1 hb2
  have hB2 := hb1.trans (hb2.mono hb1.size)
  clear hE1 hb1 hb2 hre
  go_wp2_with fail
  refine (atoi_any im him _ hE2).mono ?_
  rintro e w3 ⟨⟨y, u, rfl, hu⟩, hb3⟩
  have hE3 := env_keep hE2 hb3
  have hB3 := hB2.trans (hb3.mono hB2.size)
  clear hE2 hB2 hb3 him
  rcases hv with rfl | ⟨t, p, rfl⟩
  · rcases hu with rfl | ⟨t, p, rfl⟩
    · by_cases ho : x.natAbs ≤ 16777216 ∧ y.natAbs ≤ 16777216
      · obtain ⟨hx, hy⟩ := ho
        have hT := hn.out x y hx hy
        clear hn
        go_wp2_with fail
        refine (make_yes x y _ hx hy).mono ?_
        rintro e w' ⟨rfl, hw'⟩
        rw [hw']
        clear hw'
        go_wp2_with fail
        refine (text_w x y _ hE3.tab hx hy).mono ?_
        rintro e w4 ⟨rfl, hb4⟩
        go_wp2_with fail
        go_ret2
        exact ⟨rfl, hB3.trans (hb4.mono hB3.size)⟩
      · clear hn
        go_wp2_with fail
        refine (make_no x y _ (by omega)).mono ?_
        rintro e w' ⟨rfl, hw'⟩
        rw [hw']
        clear hw'
        go_wp2_with fail
        go_ret2
        exact ⟨rfl, hB3⟩
    · clear hn
      go_wp2_with fail
      go_ret2
      exact ⟨rfl, hB3⟩
  · clear hn
    go_wp2_with fail
    go_ret2
    exact ⟨rfl, hB3⟩

set_option maxHeartbeats 400000 in
theorem text_no (a b : Nat) (w : World) (ha : a < 2 ^ 64) (hb : b < 2 ^ 64) (hv : vc a b = false) :
    Calls Tryz.prog 70 #[.complex .f64 a b] w fun e w' => e = .returned (.tuple #[.string ByteArray.empty, .int .i64 3]) ∧ w' = w := by
  go_enter Tryz.func70, Tryz.ntmps70
  go_wp2_with fail
  refine (parts_no a b _ ha hb hv).mono ?_
  rintro e w' ⟨rfl, rfl⟩
  go_wp2_with fail
  go_ret2
  exact ⟨rfl, rfl⟩

theorem parse_any (l : List UInt8) (hl : l.length ≤ 281474976710656) (w : World) (hE : Env w) :
    Calls Tryz.prog 46 #[.string (bs l)] w fun e w' => e = .returned (.tuple #[.complex .f64 (fl (rdP l)) (fl (rdQ l)), .int .i64 (rdE l)]) ∧ Below w.heap.size w w' := by
  unfold rdP rdQ rdE
  by_cases h : rdOk l = true
  · have h' := h
    unfold rdOk at h'
    obtain ⟨_, b1, b2, ht⟩ := of_decide_eq_true h'
    rw [h]
    have := parse_w (rdX l) (rdY l) w hE.tab b1 b2
    rw [ht] at this
    exact this
  · have h' : rdOk l = false := by simpa using h
    rw [h']
    refine parse_no l hl ?_ w hE
    intro p q hp hq
    rw [bs_toList, bs_toList, beq_eq_false_iff_ne]
    intro e
    apply h
    rw [← e]
    exact (rd_txt p q hp hq).2.2
end Go.Proofs.YtndgglhppoijnaaGreatDoor
