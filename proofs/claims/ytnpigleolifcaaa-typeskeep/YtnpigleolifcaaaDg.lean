/-
  The walks of the document's numerals and texts.
-/
import Derived.Test.YtnpigleolifcaaaUC
import Derived.Deep.RegionWith
import Derived.Laws.IdiomStrings
import Derived.Lib.ItoaLen
namespace Go.Proofs.Ytnpigleolifcaaa
open Go.RowKit
open Go.Lib
set_option maxRecDepth 100000

/-- The last digit's text. -/
def lastD (n : Nat) : ByteArray := bs [UInt8.ofNat (48 + n % 10)]

theorem ret_str {a b : ByteArray} (h : a = b) : Ending.returned (.string a) = .returned (.string b) := by rw [h]

theorem conv_one (n : Nat) (w : World) :
    (convert 22 9 (.slice (some ⟨w.heap.size, 0, none⟩) 1 1)).run Try.prog (w.alloc (.cells #[.int .u8 (48 + (n : Int) % 10)] 5)) = .ok (.string (lastD n)) (w.alloc (.cells #[.int .u8 (48 + (n : Int) % 10)] 5)) := by
  have := run_convert_bytes_back (P := Try.prog) (w.alloc (.cells #[.int .u8 (48 + (n : Int) % 10)] 5)) 22 9 5 ⟨w.heap.size, 0, none⟩ 1 [UInt8.ofNat (48 + n % 10)] Try.underlying22 Try.underlying5 Try.underlying9 (by
    intro j hj
    have h0 : j = 0 := by simp at hj; omega
    subst h0
    have e : ([UInt8.ofNat (48 + n % 10)][0].toNat : Int) = 48 + (n : Int) % 10 := by
      have := dig_of (show n % 10 < 10 by omega)
      simp only [List.getElem_cons_zero]
      rw [this]; omega
    rw [e]
    show (w.alloc (.cells #[.int .u8 (48 + (n : Int) % 10)] 5)).cell? ⟨w.heap.size, 0, none⟩ = _
    go_simp)
  exact this

set_option maxHeartbeats 1000000 in
theorem digits_nat (n : Nat) : n < 4294967296 → ∀ w : World,
    Calls Try.prog 86 #[.int .i64 n] w fun e w' => e = .returned (.string (bs (decDigits n))) ∧ Below w.heap.size w w' := by
  induction n using Nat.strongRecOn with
  | _ n ih =>
    intro hn w
    have hcv := conv_one n w
    have h0 : ¬ (n : Int) < 0 := by omega
    by_cases h : n < 10
    · have h1 : ¬ (10 : Int) ≤ n := by omega
      clear ih
      go_enter Try.func86, Try.ntmps86
      go_wp2_with fail
      go_ret
      refine ⟨ret_str ?_, bal (Below.refl _ _)⟩
      unfold lastD
      rw [decDigits_one h, show n % 10 = n by omega]
    · have h1 : (10 : Int) ≤ n := by omega
      have IH : Hid (∀ w : World, Calls Try.prog 86 #[.int .i64 ((n / 10 : Nat) : Int)] w fun e w' => e = .returned (.string (bs (decDigits (n / 10)))) ∧ Below w.heap.size w w') := ih (n / 10) (by omega) (by omega)
      clear ih
      have hl : (decDigits (n / 10)).length ≤ 20 := by
        rw [decDigits_length]
        exact nDigits_le20 _ (by omega)
      have hsz : (bs (decDigits (n / 10))).size ≤ 20 := by rw [bs_size]; exact hl
      have hs1 : (lastD n).size ≤ 1 := by unfold lastD; rw [bs_size]; exact Nat.le_refl _
      clear hl
      go_enter Try.func86, Try.ntmps86
      go_wp2_with fail
      have e1 : ((n : Int) / 10) = ((n / 10 : Nat) : Int) := by omega
      rw [e1]
      clear e1
      refine (IH.out _).mono ?_
      rintro e w1 ⟨rfl, hb⟩
      go_wp2_with fail
      go_ret
      refine ⟨ret_str ?_, (bal (Below.refl _ _)).trans (hb.mono (by simp))⟩
      unfold lastD
      have e : decDigits n = decDigits (n / 10) ++ [UInt8.ofNat (48 + n % 10)] := by rw [decDigits, dif_neg h]
      rw [bs_app, e]

set_option maxHeartbeats 1000000 in
theorem digits_w (n : Int) (w : World) (h : n.natAbs ≤ 16777216) :
    Calls Try.prog 86 #[.int .i64 n] w fun e w' => e = .returned (.string (bs (itoa n))) ∧ Below w.heap.size w w' := by
  by_cases h0 : n < 0
  · have hl : (decDigits n.natAbs).length ≤ 20 := by
      rw [decDigits_length]
      exact nDigits_le20 _ (by omega)
    have hsz : (bs (decDigits n.natAbs)).size ≤ 20 := by rw [bs_size]; exact hl
    have HD : Hid (∀ w, Calls Try.prog 86 #[.int .i64 (-n)] w fun e w' => e = .returned (.string (bs (decDigits n.natAbs))) ∧ Below w.heap.size w w') := by
      intro w
      have := digits_nat n.natAbs (by omega) w
      rwa [show ((n.natAbs : Nat) : Int) = -n by omega] at this
    have e : Hid (itoa n = [45] ++ decDigits n.natAbs) := by show itoa n = _; unfold itoa; rw [if_pos h0]; rfl
    clear hl
    go_enter Try.func86, Try.ntmps86
    go_wp2_with fail
    refine (HD.out _).mono ?_
    rintro _ w1 ⟨rfl, hb⟩
    go_wp2_with fail
    go_ret
    refine ⟨ret_str ?_, hb⟩
    rw [e.out, ← bs_app]; rfl
  · have := digits_nat n.toNat (by omega) w
    rw [show ((n.toNat : Nat) : Int) = n by omega] at this
    have e : itoa n = decDigits n.toNat := by unfold itoa; rw [if_neg h0]
    rw [e]
    exact this

theorem step_below {w a b : World} (h : Below w.heap.size w a) (hb : Below a.heap.size a b) : Below w.heap.size w b := h.trans (hb.mono h.size)

set_option maxHeartbeats 2000000 in
theorem rtext_c (p q : Int) (w : World) (h1 : ¬ p = 0) (h2 : 0 < q) (hp : p.natAbs ≤ 16777216) (hq : q.natAbs ≤ 16777216) :
    Calls Try.prog 79 #[.agg #[.int .i64 p, .int .i64 q]] w fun e w' => e = .returned (.string (bs (itoa p ++ [43] ++ itoa q ++ [105]))) ∧ Below w.heap.size w w' := by
  have hz := (itoa_len hq).2
  have hy := (itoa_len hp).2
  have hsz : (bs (itoa q)).size ≤ 9 := by rw [bs_size]; exact hz
  have hsy : (bs (itoa p)).size ≤ 9 := by rw [bs_size]; exact hy
  clear hz hy
  go_enter Try.func79, Try.ntmps79
  go_wp2_with fail
  have ca : (w.alloc (.cells #[.int .i64 p, .int .i64 q] 127)).cell? ⟨w.heap.size, 0, none⟩ = some (.int .i64 p) := by go_simp
  have cb : (w.alloc (.cells #[.int .i64 p, .int .i64 q] 127)).cell? ⟨w.heap.size, 1, none⟩ = some (.int .i64 q) := by go_simp
  go_region_with (go_at_call 86; refine (digits_w _ _ (by assumption)).mono ?_; rintro _ w1 ⟨rfl, hb⟩; have ka := keep (b := w.heap.size) (o := 0) (v := .int .i64 p) hb (by first | assumption | (simp; done) | (simp; assumption)); have kb := keep (b := w.heap.size) (o := 1) (v := .int .i64 q) hb (by first | assumption | (simp; done) | (simp; assumption)))
  all_goals
    go_wp2
    go_ret
    refine ⟨ret_str ?_, ?_⟩
  all_goals first
    | (rw [← bs_app, ← bs_app, ← bs_app]; rfl)
    | (repeat (first | exact Below.refl _ _ | refine bal ?_ | refine below_drewN ?_ _ | refine Below.drew ?_ | refine step_below ?_ (by assumption)))

set_option maxHeartbeats 2000000 in
theorem rtext_d (p q : Int) (w : World) (h0 : ¬ q = 0) (h1 : ¬ p = 0) (h2 : ¬ 0 < q) (hp : p.natAbs ≤ 16777216) (hq : q.natAbs ≤ 16777216) :
    Calls Try.prog 79 #[.agg #[.int .i64 p, .int .i64 q]] w fun e w' => e = .returned (.string (bs (itoa p ++ itoa q ++ [105]))) ∧ Below w.heap.size w w' := by
  have hz := (itoa_len hq).2
  have hy := (itoa_len hp).2
  have hsz : (bs (itoa q)).size ≤ 9 := by rw [bs_size]; exact hz
  have hsy : (bs (itoa p)).size ≤ 9 := by rw [bs_size]; exact hy
  clear hz hy
  go_enter Try.func79, Try.ntmps79
  go_wp2_with fail
  have ca : (w.alloc (.cells #[.int .i64 p, .int .i64 q] 127)).cell? ⟨w.heap.size, 0, none⟩ = some (.int .i64 p) := by go_simp
  have cb : (w.alloc (.cells #[.int .i64 p, .int .i64 q] 127)).cell? ⟨w.heap.size, 1, none⟩ = some (.int .i64 q) := by go_simp
  go_region_with (go_at_call 86; refine (digits_w _ _ (by assumption)).mono ?_; rintro _ w1 ⟨rfl, hb⟩; have ka := keep (b := w.heap.size) (o := 0) (v := .int .i64 p) hb (by first | assumption | (simp; done) | (simp; assumption)); have kb := keep (b := w.heap.size) (o := 1) (v := .int .i64 q) hb (by first | assumption | (simp; done) | (simp; assumption)))
  all_goals
    go_wp2
    go_ret
    refine ⟨ret_str ?_, ?_⟩
  all_goals first
    | (rw [← bs_app, ← bs_app]; rfl)
    | (repeat (first | exact Below.refl _ _ | refine bal ?_ | refine below_drewN ?_ _ | refine Below.drew ?_ | refine step_below ?_ (by assumption)))

set_option maxHeartbeats 1000000 in
theorem rtext_w (p q : Int) (w : World) (hp : p.natAbs ≤ 16777216) (hq : q.natAbs ≤ 16777216) :
    Calls Try.prog 79 #[.agg #[.int .i64 p, .int .i64 q]] w fun e w' => e = .returned (.string (bs (txt p q))) ∧ Below w.heap.size w w' := by
  have hz := (itoa_len hq).2
  have hy := (itoa_len hp).2
  have hsz : (bs (itoa q)).size ≤ 9 := by rw [bs_size]; exact hz
  have hsy : (bs (itoa p)).size ≤ 9 := by rw [bs_size]; exact hy
  clear hz hy
  by_cases h0 : q = 0
  · have e : Hid (txt p q = itoa p) := by show txt p q = _; unfold txt; rw [if_pos h0]
    subst h0
    go_enter Try.func79, Try.ntmps79
    go_wp2_with fail
    refine (digits_w _ _ hp).mono ?_
    rintro _ w1 ⟨rfl, hb⟩
    go_wp2_with fail
    go_ret
    exact ⟨ret_str (by rw [e.out]), (bal (Below.refl _ _)).trans (hb.mono (by simp))⟩
  · by_cases h1 : p = 0
    · have e : Hid (txt p q = itoa q ++ [105]) := by show txt p q = _; unfold txt; rw [if_neg h0, if_pos h1]
      subst h1
      go_enter Try.func79, Try.ntmps79
      go_wp2_with fail
      refine (digits_w _ _ hq).mono ?_
      rintro _ w1 ⟨rfl, hb⟩
      go_wp2_with fail
      go_ret
      exact ⟨ret_str (by rw [e.out, ← bs_app]; rfl), (bal (Below.refl _ _)).trans (hb.mono (by simp))⟩
    · by_cases h2 : 0 < q
      · have e : txt p q = itoa p ++ [43] ++ itoa q ++ [105] := by unfold txt; rw [if_neg h0, if_neg h1, if_pos h2]; simp
        rw [e]
        exact rtext_c p q w h1 h2 hp hq
      · have e : txt p q = itoa p ++ itoa q ++ [105] := by unfold txt; rw [if_neg h0, if_neg h1, if_neg h2]; simp
        rw [e]
        exact rtext_d p q w h0 h1 h2 hp hq
end Go.Proofs.Ytnpigleolifcaaa
