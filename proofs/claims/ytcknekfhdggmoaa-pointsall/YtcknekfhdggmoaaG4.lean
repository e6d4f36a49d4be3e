/-
  The walk of PointsRise.
-/
import Derived.Test.YtcknekfhdggmoaaG3
namespace Go.Proofs.Ytcknekfhdggmoaa
open Go.RowKit
open Go.Lib
set_option maxRecDepth 100000

theorem four (b : Int) (h : 0 ≤ b ∧ b ≤ 3) : b = 0 ∨ b = 1 ∨ b = 2 ∨ b = 3 := by omega
theorem two_ (a : Int) (h : 0 ≤ a ∧ a ≤ 1) : a = 0 ∨ a = 1 := by omega
theorem cons_pt (a b : Int) (ha : 0 ≤ a ∧ a ≤ 1) (hb : 0 ≤ b ∧ b ≤ 3) : 0 ≤ consP a b ∧ consP a b ≤ 3 := by
  rcases two_ a ha with rfl | rfl <;> rcases four b hb with rfl | rfl | rfl | rfl <;> decide
theorem cons_rise (a b c d : Int) (ha : 0 ≤ a ∧ a ≤ 1) (hb : 0 ≤ b ∧ b ≤ 3) (hc : a ≤ c ∧ c ≤ 1) (hd : b ≤ d ∧ d ≤ 3) : consP a b ≤ consP c d := by
  rcases two_ a ha with rfl | rfl <;> rcases four b hb with rfl | rfl | rfl | rfl <;> rcases two_ c ⟨by omega, hc.2⟩ with rfl | rfl <;> rcases four d ⟨by omega, hd.2⟩ with rfl | rfl | rfl | rfl <;> first | decide | omega
theorem cov_rise (b d : Int) (hb : 0 ≤ b ∧ b ≤ 3) (hd : b ≤ d ∧ d ≤ 3) : (csP b).all (fun u => covP u (csP d)) = true := by
  rcases four b hb with rfl | rfl | rfl | rfl <;> rcases four d ⟨by omega, hd.2⟩ with rfl | rfl | rfl | rfl <;> first | decide | omega
theorem cov_cons (a b : Int) (ha : 0 ≤ a ∧ a ≤ 1) (hb : 0 ≤ b ∧ b ≤ 3) : covP ⟨false, a, b⟩ (csP (consP a b)) = true := by
  rcases two_ a ha with rfl | rfl <;> rcases four b hb with rfl | rfl | rfl | rfl <;> decide
theorem chk_pt (b : Int) (hb : 0 ≤ b ∧ b ≤ 3) : chkP 3 b = 0 := by
  rcases four b hb with rfl | rfl | rfl | rfl <;> decide
theorem cs_len (p : Int) : (csP p).length ≤ 9 := by
  unfold csP
  split
  · decide
  · split
    · decide
    · split <;> decide

set_option maxHeartbeats 4000000 in
theorem pointsRise_any (i1 i2 i3 i4 : Int) (w : World) :
    Calls Try.prog 5 #[.int .i64 i1, .int .i64 i2, .int .i64 i3, .int .i64 i4] w fun e w' => e = .returned (.bool true) ∧ Below w.heap.size w w' := by
  go_enter Try.func5, Try.ntmps5
  go_wp2_with fail
  refine (awake15_any w).mono ?_
  rintro e w0 ⟨rfl, hb0⟩
  go_wp2_with fail
  refine (into_any i1 2 (by decide) (by decide) _).mono ?_
  rintro e w1 ⟨a, rfl, ha0, ha1, hb1⟩
  go_wp2_with fail
  refine (into_any i2 4 (by decide) (by decide) _).mono ?_
  rintro e w2 ⟨b, rfl, hb0', hb1', hb2⟩
  have C2 : Hid (Below w.heap.size w w2) := Below.thn hb0 (Below.thn hb1 hb2)
  clear hb0 hb1 hb2
  go_upto_region 5 with fail
  go_wp2_with fail
  refine (into_any i3 2 (by decide) (by decide) _).mono ?_
  rintro e w3 ⟨c', rfl, hc0, hc1, hb3⟩
  go_upto_region 6 with fail
  obtain ⟨c, hc⟩ : ∃ c, c = (if a < c' then c' else a) := ⟨_, rfl⟩
  rw [← hc]
  have hc' : a ≤ c ∧ c ≤ 1 := by
    rw [hc]
    split <;> omega
  clear hc hc0 hc1
  go_wp2_with fail
  refine (into_any i4 4 (by decide) (by decide) _).mono ?_
  rintro e w4 ⟨d', rfl, hd0, hd1, hb4⟩
  go_upto_region 7 with fail
  obtain ⟨d, hd⟩ : ∃ d, d = (if b < d' then d' else b) := ⟨_, rfl⟩
  rw [← hd]
  have hd' : b ≤ d ∧ d ≤ 3 := by
    rw [hd]
    split <;> omega
  clear hd hd0 hd1
  have ha : 0 ≤ a ∧ a ≤ 1 := ⟨ha0, by omega⟩
  have hb : 0 ≤ b ∧ b ≤ 3 := ⟨hb0', by omega⟩
  have C4 : Hid (Below w.heap.size w w4) := Below.thn (Below.thn C2.out hb3) hb4
  have H1 : Hid (∀ W, Calls Try.prog 11 #[.int .i64 a, .int .i64 b] W fun e w' => e = .returned (.tuple #[.int .i64 (consP a b), .int .i64 0]) ∧ Below W.heap.size W w') := fun W => cons_good a b (two_ a ha) (four b hb) W
  have H2 : Hid (∀ W, Calls Try.prog 11 #[.int .i64 c, .int .i64 d] W fun e w' => e = .returned (.tuple #[.int .i64 (consP c d), .int .i64 0]) ∧ Below W.heap.size W w') := fun W => cons_good c d (two_ c ⟨by omega, by omega⟩) (four d ⟨by omega, by omega⟩) W
  have K3 : ∀ q, 0 ≤ q ∧ q ≤ 3 → ∀ W, Calls Try.prog 14 #[.int .i64 q] W fun e w' => ∃ v, e = .returned (.tuple #[v, .int .i64 0]) ∧ BrW w' v (csP q) ∧ Below W.heap.size W w' := fun q hq W => by
    have := cases_any q W
    rw [chk_pt q hq] at this
    exact this
  have H3 : Hid (∀ W, Calls Try.prog 14 #[.int .i64 b] W fun e w' => ∃ v, e = .returned (.tuple #[v, .int .i64 0]) ∧ BrW w' v (csP b) ∧ Below W.heap.size W w') := K3 b hb
  have H4 : Hid (∀ W, Calls Try.prog 14 #[.int .i64 d] W fun e w' => ∃ v, e = .returned (.tuple #[v, .int .i64 0]) ∧ BrW w' v (csP d) ∧ Below W.heap.size W w') := K3 d ⟨by omega, by omega⟩
  have H5 : Hid (∀ W, Calls Try.prog 14 #[.int .i64 (consP a b)] W fun e w' => ∃ v, e = .returned (.tuple #[v, .int .i64 0]) ∧ BrW w' v (csP (consP a b)) ∧ Below W.heap.size W w') := K3 _ (cons_pt a b ha hb)
  have hr0 := cons_rise a b c d ha hb hc' hd'
  have R1 := cov_rise b d hb hd'
  have R2 := cov_cons a b ha hb
  have L1 := cs_len b
  have L2 := cs_len d
  have L3 := cs_len (consP a b)
  clear K3 ha hb hc' hd' hb3 hb4 C2
  generalize consP a b = x at *
  generalize consP c d = y at *
  generalize csP b = lb at *
  generalize csP d = ld at *
  generalize csP x = lx at *
  have hr : decide (y < x) = false := decide_eq_false (by omega)
  have RR : Hid (lb.all (fun u => covP u ld) = true ∧ covP ⟨false, a, b⟩ lx = true ∧ lb.length ≤ 9 ∧ ld.length ≤ 9 ∧ lx.length ≤ 9) := ⟨R1, R2, L1, L2, L3⟩
  clear hr0 R1 R2 L1 L2 L3
  go_wp2_with fail
  refine (H1.out _).mono ?_
  rintro e w5 ⟨rfl, hb5⟩
  go_wp2_with fail
  refine (H2.out _).mono ?_
  rintro e w6 ⟨rfl, hb6⟩
  go_wp2_with fail
  refine (H3.out _).mono ?_
  rintro e w7 ⟨v7, rfl, hv7, hb7⟩
  have V7 : Hid (BrW w7 v7 lb) := hv7
  have C7 : Hid (Below w.heap.size w w7) := Below.thn C4.out (Below.thn hb5 (Below.thn hb6 hb7))
  clear hv7 hb5 hb6 hb7 H1 H2 H3 C4
  go_wp2_with fail
  refine (H4.out _).mono ?_
  rintro e w8 ⟨v8, rfl, hv8, hb8⟩
  have V8 : Hid (BrW w8 v7 lb ∧ BrW w8 v8 ld) := ⟨V7.out.up hb8, hv8⟩
  have C8 : Hid (Below w.heap.size w w8) := Below.thn C7.out hb8
  clear hv8 hb8 V7 C7 H4
  go_wp2_with fail
  refine (H5.out _).mono ?_
  rintro e w9 ⟨v9, rfl, hv9, hb9⟩
  have V9 : Hid (BrW w9 v7 lb ∧ BrW w9 v8 ld ∧ BrW w9 v9 lx) := ⟨V8.out.1.up hb9, V8.out.2.up hb9, hv9⟩
  have C9 : Hid (Below w.heap.size w w9) := Below.thn C8.out hb9
  clear hv9 hb9 V8 C8 H5
  obtain ⟨ao, hv7, hc7⟩ := V9.out.1
  subst hv7
  obtain ⟨n, hn⟩ : ∃ n, n = lb.length := ⟨_, rfl⟩
  rw [← hn] at hc7 ⊢
  have HN : Hid (n = lb.length) := hn
  have H7 : Hid (∀ i, i < n → ∃ b o, ao = some ⟨b, o, none⟩ ∧ w9.cell? ⟨b, o + i * 3, none⟩ = some (.bool (lb.getD i br0).n) ∧ w9.cell? ⟨b, o + i * 3 + 1, none⟩ = some (.int .i64 (lb.getD i br0).h) ∧ w9.cell? ⟨b, o + i * 3 + 2, none⟩ = some (.int .i64 (lb.getD i br0).t)) := hc7
  have hn9 : n ≤ 9 := by have := RR.out.2.2.1; omega
  clear hn hc7
  go_wp2_with fail
  go_loopw [23] (fun i wr => ∃ k : Nat, k ≤ n ∧ i = .int .i64 k ∧ Below w9.heap.size w9 wr) (fun i _ => n - (intOf i).toNat)
  case atStart => exact ⟨0, Nat.zero_le _, rfl, Below.refl _ _⟩
  case round =>
    obtain ⟨k, hkn, rfl, hBr⟩ := hrel
    by_cases hlt : k < n
    · obtain ⟨g, o, rfl, c0, c1, c2⟩ := H7.out k hlt
      have hbl := cell_lt c0
      replace c0 := (hBr.cell hbl).trans c0
      replace c1 := (hBr.cell hbl).trans c1
      replace c2 := (hBr.cell hbl).trans c2
      have hcv : covP (lb.getD k br0) ld = true := by
        have := RR.out.1
        rw [List.all_eq_true] at this
        refine this _ ?_
        rw [List.getD_eq_getElem?_getD, List.getElem?_eq_getElem (by rw [← HN.out]; exact hlt)]
        exact List.getElem_mem _
      have m := covered_any (lb.getD k br0) v8 ld wr (V9.out.2.1.up hBr) RR.out.2.2.2.1
      rw [hcv] at m
      clear hcv hbl
      generalize lb.getD k br0 = u at *
      obtain ⟨un, uh, ut⟩ := u
      simp only at c0 c1 c2 m
      go_wp2_with fail
      refine m.mono ?_
      rintro e w10 ⟨rfl, hb10⟩
      go_wp2
      go_roundw
      case rel => exact ⟨k + 1, by omega, by go_num, Below.thn hBr hb10⟩
      case measure => simp [intOf]; omega
    · have hke : k = n := by omega
      have m := covered_any ⟨false, a, b⟩ v9 lx wr (V9.out.2.2.up hBr) RR.out.2.2.2.2
      rw [RR.out.2.1] at m
      subst hke
      go_wp2_with fail
      refine m.mono ?_
      rintro e w10 ⟨rfl, hb10⟩
      go_wp2
      go_ret
      exact ⟨rfl, Below.thn C9.out (Below.thn hBr hb10)⟩
end Go.Proofs.Ytcknekfhdggmoaa
