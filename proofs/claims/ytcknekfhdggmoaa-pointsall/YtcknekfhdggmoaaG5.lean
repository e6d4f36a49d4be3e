/-
  The walk of PointsAll.
-/
import Derived.Test.YtcknekfhdggmoaaG4
namespace Go.Proofs.Ytcknekfhdggmoaa
open Go.RowKit
open Go.Lib
set_option maxRecDepth 100000

theorem chk3 (p : Int) : chkP 3 p = if isP 3 p then 0 else 2 := by
  unfold chkP
  rw [if_neg (by decide)]

theorem isP_two {p : Int} (h : isP 1 p = true) : p = 0 ∨ p = 1 := by
  unfold isP at h
  rw [show topP 1 = 1 from by decide, decide_eq_true_eq] at h
  omega
theorem isP_four {p : Int} (h : isP 3 p = true) : p = 0 ∨ p = 1 ∨ p = 2 ∨ p = 3 := by
  unfold isP at h
  rw [show topP 3 = 3 from by decide, decide_eq_true_eq] at h
  omega

set_option maxHeartbeats 4000000 in
theorem pointsAll_any (t p q : Int) (w : World) :
    Calls Try.prog 3 #[.int .i64 t, .int .i64 p, .int .i64 q] w fun e w' => e = .returned (.bool true) ∧ Below w.heap.size w w' := by
  have H1 : Hid (∀ W, Calls Try.prog 7 #[.int .i64 t] W fun e w' => e = .returned (.tuple #[.int .i64 (topV t), .int .i64 (topE t)]) ∧ Below W.heap.size W w') := fun W => top_any t W
  have H2 : Hid (∀ W, Calls Try.prog 8 #[.int .i64 t] W fun e w' => e = .returned (.int .i64 (topP t)) ∧ Below W.heap.size W w') := fun W => rtop_any t W
  have H3 : Hid (∀ W, Calls Try.prog 9 #[.int .i64 t, .int .i64 p] W fun e w' => e = .returned (.int .i64 (chkP t p)) ∧ Below W.heap.size W w') := fun W => check_any t p W
  have H4 : Hid (∀ W, Calls Try.prog 10 #[.int .i64 t, .int .i64 p] W fun e w' => e = .returned (.int .i64 (chkP t p)) ∧ Below W.heap.size W w') := fun W => rcheck_any t p W
  have H5 : Hid (∀ W, Calls Try.prog 16 #[.int .i64 t, .int .i64 p] W fun e w' => e = .returned (.tuple #[.string (wdP t p), .int .i64 (chkP t p)]) ∧ Below W.heap.size W w') := fun W => word_any t p W
  have H6 : Hid (∀ W, Calls Try.prog 17 #[.int .i64 t, .int .i64 p] W fun e w' => e = .returned (.tuple #[.string (wdP t p), .int .i64 (chkP t p)]) ∧ Below W.heap.size W w') := fun W => rword_any t p W
  have H7 : Hid (∀ W, Calls Try.prog 12 #[.int .i64 1, .int .i64 p] W fun e w' => e = .returned (.bool (isP 1 p)) ∧ Below W.heap.size W w') := fun W => is_any 1 p W
  have H8 : Hid (∀ W, Calls Try.prog 12 #[.int .i64 3, .int .i64 q] W fun e w' => e = .returned (.bool (isP 3 q)) ∧ Below W.heap.size W w') := fun W => is_any 3 q W
  have H9 : Hid (∀ W, Calls Try.prog 12 #[.int .i64 3, .int .i64 p] W fun e w' => e = .returned (.bool (isP 3 p)) ∧ Below W.heap.size W w') := fun W => is_any 3 p W
  have HE : Hid (topV t = (if topP t < 0 then 0 else topP t) ∧ topE t = if topP t < 0 then 3 else 0) := ⟨rfl, rfl⟩
  have HG : Hid (isP 1 p = true → isP 3 q = true → (∀ W, Calls Try.prog 11 #[.int .i64 p, .int .i64 q] W fun e w' => e = .returned (.tuple #[.int .i64 (consP p q), .int .i64 0]) ∧ Below W.heap.size W w') ∧ ∀ W, Calls Try.prog 13 #[.int .i64 p, .int .i64 q] W fun e w' => e = .returned (.int .i64 (consP p q)) ∧ Below W.heap.size W w') :=
    fun a b => ⟨fun W => cons_good p q (isP_two a) (isP_four b) W, fun W => rcons_any p q (isP_two a) (isP_four b) W⟩
  have HBd : Hid (¬ (isP 1 p = true ∧ isP 3 q = true) → ∀ W, Calls Try.prog 11 #[.int .i64 p, .int .i64 q] W fun e w' => e = .returned (.tuple #[.int .i64 0, .int .i64 2]) ∧ Below W.heap.size W w') := fun a W => cons_bad p q a W
  have HC1 : Hid (∀ W, Calls Try.prog 14 #[.int .i64 p] W fun e w' => ∃ v, e = .returned (.tuple #[v, .int .i64 (if isP 3 p then 0 else 2)]) ∧ BrW w' v (csP p) ∧ Below W.heap.size W w') := fun W => by
    have := cases_any p W
    rw [chk3] at this
    exact this
  have HC2 : Hid (∀ W, Calls Try.prog 15 #[.int .i64 p] W fun e w' => ∃ v, e = .returned v ∧ BrW w' v (csP p) ∧ Below W.heap.size W w') := fun W => rcases_any p W
  have HL : Hid ((csP p).length ≤ 9) := cs_len p
  generalize topV t = tv at *
  generalize topE t = te at *
  generalize topP t = tp at *
  generalize chkP t p = ck at *
  generalize wdP t p = wd at *
  generalize isP 1 p = i1 at *
  generalize isP 3 q = i3 at *
  generalize isP 3 p = ip at *
  obtain ⟨cp, hcp⟩ : ∃ cp : Int, cp = if ip then 0 else 2 := ⟨_, rfl⟩
  rw [← hcp] at HC1
  have HCP : Hid (cp = if ip then 0 else 2) := hcp
  clear hcp
  generalize consP p q = cn at *
  generalize csP p = ls at *
  go_enter Try.func3, Try.ntmps3
  go_wp2_with fail
  refine (awake15_any w).mono ?_
  rintro e w0 ⟨rfl, hb0⟩
  go_wp2_with fail
  refine (H1.out _).mono ?_
  rintro e w1 ⟨rfl, hb1⟩
  go_wp2_with fail
  refine (H2.out _).mono ?_
  rintro e w2 ⟨rfl, hb2⟩
  have C2 : Hid (Below w.heap.size w w2) := Below.thn hb0 (Below.thn hb1 hb2)
  clear hb0 hb1 hb2 H1 H2
  go_upto_region 8 with fail
  have hcc : (ck != ck) = false := by simp
  go_cut [67] (fun b wx => b = .bool false ∧ Below w.heap.size w wx)
  case first =>
    by_cases hk : tp < 0
    · have e1 := HE.out.1
      have e2 := HE.out.2
      rw [if_pos hk] at e1 e2
      subst e1
      subst e2
      have hk0 : decide (tp < 0) = true := decide_eq_true hk
      have hk1 : decide (0 ≤ tp) = false := decide_eq_false (by omega)
      clear HE
      go_wp2_with fail
      refine (H3.out _).mono ?_
      rintro e w3 ⟨rfl, hb3⟩
      go_wp2_with fail
      refine (H4.out _).mono ?_
      rintro e w4 ⟨rfl, hb4⟩
      go_wp2
      go_meet
      case rel => exact ⟨rfl, Below.thn C2.out (Below.thn hb3 hb4)⟩
    · have e1 := HE.out.1
      have e2 := HE.out.2
      rw [if_neg hk] at e1 e2
      subst e1
      subst e2
      have hk0 : decide (tv < 0) = false := decide_eq_false hk
      have hk1 : decide (0 ≤ tv) = true := decide_eq_true (by omega)
      have hk2 : (tv != tv) = false := by simp
      clear HE
      go_wp2_with fail
      refine (H3.out _).mono ?_
      rintro e w3 ⟨rfl, hb3⟩
      go_wp2_with fail
      refine (H4.out _).mono ?_
      rintro e w4 ⟨rfl, hb4⟩
      go_wp2
      go_meet
      case rel => exact ⟨rfl, Below.thn C2.out (Below.thn hb3 hb4)⟩
  case rest =>
    obtain ⟨rfl, hbc⟩ := hcut
    have C3 : Hid (Below w.heap.size w wc) := hbc
    have hcn : (cn != cn) = false := by simp
    clear hbc C2 H3 H4 HE
    obtain ⟨gb, k1, k2, HK, hcons⟩ : ∃ (gb : Bool) (k1 k2 : Int), Hid ((gb = false ∧ k1 = 0 ∧ k2 = 2 ∧ (i1 = false ∨ i1 = true ∧ i3 = false)) ∨ (gb = true ∧ k1 = cn ∧ k2 = 0 ∧ i1 = true ∧ i3 = true)) ∧ Hid (∀ W, Calls Try.prog 11 #[.int .i64 p, .int .i64 q] W fun e w' => e = .returned (.tuple #[.int .i64 k1, .int .i64 k2]) ∧ Below W.heap.size W w') := by
      cases i1 <;> cases i3
      · exact ⟨false, 0, 2, .inl ⟨rfl, rfl, rfl, .inl rfl⟩, HBd.out (by decide)⟩
      · exact ⟨false, 0, 2, .inl ⟨rfl, rfl, rfl, .inl rfl⟩, HBd.out (by decide)⟩
      · exact ⟨false, 0, 2, .inl ⟨rfl, rfl, rfl, .inr ⟨rfl, rfl⟩⟩, HBd.out (by decide)⟩
      · exact ⟨true, cn, 0, .inr ⟨rfl, rfl, rfl, rfl, rfl⟩, (HG.out rfl rfl).1⟩
    go_wp2_with fail
    refine (hcons.out _).mono ?_
    rintro e w3 ⟨rfl, hb3⟩
    have C4 : Hid (Below w.heap.size w w3) := Below.thn C3.out hb3
    clear hb3 C3 hcons HBd
    go_upto_region 11 with fail
    go_cut [15] (fun b wx => b = .bool gb ∧ Below w.heap.size w wx)
    case first =>
      have hi : (gb = false ∧ i1 = false) ∨ (i1 = true ∧ i3 = gb) := by
        rcases HK.out with ⟨a, _, _, b | ⟨b, c⟩⟩ | ⟨a, _, _, b, c⟩
        · exact .inl ⟨a, b⟩
        · exact .inr ⟨b, by rw [a, c]⟩
        · exact .inr ⟨b, by rw [a, c]⟩
      clear HG HK
      rcases hi with ⟨hi1, hi2⟩ | ⟨hi1, hi2⟩
      · subst hi1
        subst hi2
        go_wp2_with fail
        refine (H7.out _).mono ?_
        rintro e w4 ⟨rfl, hb4⟩
        go_wp2
        go_meet
        case rel => exact ⟨rfl, Below.thn C4.out hb4⟩
      · subst hi1
        subst hi2
        go_wp2_with fail
        refine (H7.out _).mono ?_
        rintro e w4 ⟨rfl, hb4⟩
        go_wp2_with fail
        refine (H8.out _).mono ?_
        rintro e w5 ⟨rfl, hb5⟩
        go_wp2
        go_meet
        case rel => exact ⟨rfl, Below.thn C4.out (Below.thn hb4 hb5)⟩
    case rest =>
      obtain ⟨rfl, hbc⟩ := hcut
      have C5 : Hid (Below w.heap.size w wc) := hbc
      clear hbc C4 H7 H8
      go_upto_region 12 with fail
      go_cut [103] (fun b wx => b = .bool false ∧ Below w.heap.size w wx)
      case first =>
        have hh := HK.out
        clear HK
        rcases hh with ⟨e1, e2, e3, _⟩ | ⟨e1, e2, e3, e4, e5⟩
        · subst e1
          subst e2
          subst e3
          clear HG
          go_wp2
          go_meet
          case rel => exact ⟨rfl, C5.out⟩
        · have H : Hid (∀ W, Calls Try.prog 13 #[.int .i64 p, .int .i64 q] W fun e w' => e = .returned (.int .i64 cn) ∧ Below W.heap.size W w') := (HG.out e4 e5).2
          subst e1
          subst e2
          subst e3
          clear HG e4 e5
          go_wp2_with fail
          refine (H.out _).mono ?_
          rintro e w4 ⟨rfl, hb4⟩
          go_wp2
          go_meet
          case rel => exact ⟨rfl, Below.thn C5.out hb4⟩
      case rest =>
        obtain ⟨rfl, hbc⟩ := hcut
        have C6 : Hid (Below w.heap.size w wc) := hbc
        clear hbc C5 HG HK hcn
        go_wp2_with fail
        refine (HC1.out _).mono ?_
        rintro e w4 ⟨v4, rfl, hv4, hb4⟩
        have V4 : Hid (BrW w4 v4 ls) := hv4
        have C7 : Hid (Below w.heap.size w w4) := Below.thn C6.out hb4
        clear hv4 hb4 C6 HC1
        go_wp2_with fail
        refine (HC2.out _).mono ?_
        rintro e w5 ⟨v5, rfl, hv5, hb5⟩
        have V5 : Hid (BrW w5 v4 ls ∧ BrW w5 v5 ls) := ⟨V4.out.up hb5, hv5⟩
        have C8 : Hid (Below w.heap.size w w5) := Below.thn C7.out hb5
        clear hv5 hb5 V4 C7 HC2
        obtain ⟨a4, e4, hc4⟩ := V5.out.1
        obtain ⟨a5, e5, hc5⟩ := V5.out.2
        subst e4
        subst e5
        obtain ⟨n, hn⟩ : ∃ n, n = ls.length := ⟨_, rfl⟩
        rw [← hn] at hc4 hc5 ⊢
        have HN : Hid (n = ls.length) := hn
        have HR4 : Hid (∀ i, i < n → ∃ b o, a4 = some ⟨b, o, none⟩ ∧ w5.cell? ⟨b, o + i * 3, none⟩ = some (.bool (ls.getD i br0).n) ∧ w5.cell? ⟨b, o + i * 3 + 1, none⟩ = some (.int .i64 (ls.getD i br0).h) ∧ w5.cell? ⟨b, o + i * 3 + 2, none⟩ = some (.int .i64 (ls.getD i br0).t)) := hc4
        have HR5 : Hid (∀ i, i < n → ∃ b o, a5 = some ⟨b, o, none⟩ ∧ w5.cell? ⟨b, o + i * 3, none⟩ = some (.bool (ls.getD i br0).n) ∧ w5.cell? ⟨b, o + i * 3 + 1, none⟩ = some (.int .i64 (ls.getD i br0).h) ∧ w5.cell? ⟨b, o + i * 3 + 2, none⟩ = some (.int .i64 (ls.getD i br0).t)) := hc5
        have hn9 : n ≤ 9 := by have := HL.out; omega
        clear hn hc4 hc5 V5
        go_upto_region 16 with fail
        go_cut [130] (fun b wx => b = .bool false ∧ Below w5.heap.size w5 wx)
        case first =>
          have hh : (ip = true ∧ cp = 0) ∨ (ip = false ∧ cp = 2) := by
            have := HCP.out
            cases ip
            · exact .inr ⟨rfl, this⟩
            · exact .inl ⟨rfl, this⟩
          clear HCP
          rcases hh with ⟨e1, e2⟩ | ⟨e1, e2⟩
          all_goals
            subst e1
            subst e2
            go_wp2_with fail
            refine (H9.out _).mono ?_
            rintro e w6 ⟨rfl, hb6⟩
            go_wp2
            go_meet
            case rel => exact ⟨rfl, hb6⟩
        case rest =>
          obtain ⟨rfl, hbc⟩ := hcut
          clear H9
          go_wp2_with fail
          go_loopw [19] (fun i wr => ∃ k : Nat, k ≤ n ∧ i = .int .i64 k ∧ Below w5.heap.size w5 wr) (fun i _ => n - (intOf i).toNat)
          case atStart => exact ⟨0, Nat.zero_le _, rfl, hbc⟩
          case round =>
            obtain ⟨k, hkn, rfl, hBr⟩ := hrel
            by_cases hlt : k < n
            · obtain ⟨g, o, rfl, c0, c1, c2⟩ := HR4.out k hlt
              obtain ⟨g', o', rfl, d0, d1, d2⟩ := HR5.out k hlt
              have hl1 := cell_lt c0
              have hl2 := cell_lt d0
              replace c0 := (hBr.cell hl1).trans c0
              replace c1 := (hBr.cell hl1).trans c1
              replace c2 := (hBr.cell hl1).trans c2
              replace d0 := (hBr.cell hl2).trans d0
              replace d1 := (hBr.cell hl2).trans d1
              replace d2 := (hBr.cell hl2).trans d2
              clear hl1 hl2
              generalize ls.getD k br0 = u at *
              obtain ⟨un, uh, ut⟩ := u
              simp only at c0 c1 c2 d0 d1 d2
              go_wp2_with fail
              go_quiet (fail)
              go_wp2
              go_roundw
              case rel => exact ⟨k + 1, by omega, by go_num, bel_drewN hBr _⟩
              case measure => simp [intOf]; omega
            · have hke : k = n := by omega
              subst hke
              have hww : (wd.toList == wd.toList) = true := by simp
              go_wp2_with fail
              refine (H5.out _).mono ?_
              rintro e w6 ⟨rfl, hb6⟩
              go_wp2_with fail
              refine (H6.out _).mono ?_
              rintro e w7 ⟨rfl, hb7⟩
              go_wp2
              go_ret
              exact ⟨rfl, Below.thn C8.out (Below.thn hBr (Below.thn hb6 hb7))⟩
end Go.Proofs.Ytcknekfhdggmoaa
