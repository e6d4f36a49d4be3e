/-
  The walk of MarksCover.
-/
import Derived.Test.YtknpdjbcemgenaaDoorMx
import Derived.Deep.QuietTactic
import Derived.BigQuiet
namespace Go.Proofs.YtknpdjbcemgenaaDoor
open Go.RowKit
set_option maxRecDepth 100000

theorem mdrop_at {ms : List Mk} {k : Nat} (h : k < ms.length) : ms.drop k = ms.getD k md :: ms.drop (k + 1) := by
  rw [List.drop_eq_getElem_cons h]
  congr 1
  rw [List.getD_eq_getElem?_getD, List.getElem?_eq_getElem h]
  rfl

theorem free_at (b off cap n : Nat) (l : List UInt8) (hn : l.length = n) (hlen : l.length ≤ 1048576) (w : World) (hc : ∀ t, t < n → w.cell? ⟨b, off + t, none⟩ = some (.int .u8 ((l.getD t 0).toNat : Int))) :
    Calls Tryd.prog 17 #[.slice (some ⟨b, off, none⟩) n cap] w fun e w' => e = .returned (.bool (frB false l)) ∧ w' = w := by
  subst hn
  exact free_some b off cap l hlen w hc

set_option maxHeartbeats 8000000 in
theorem cover_some (b off cap : Nat) (l : List UInt8) (_hl : l ≠ []) (hlen : l.length ≤ 1048576) (hcap : l.length ≤ cap) (w : World) (hG : Gl w) (hE : Env w) (hT : Bd w (some ⟨b, off, none⟩) l) :
    Calls Tryd.prog 5 #[.slice (some ⟨b, off, none⟩) l.length cap] w fun e w' => e = .returned (.bool true) ∧ Below w.heap.size w w' := by
  go_enter Tryd.func5, Tryd.ntmps5
  go_wp2_with (go_at_call 9; refine (awake_any _ hG hE).mono ?_; rintro e w1 ⟨rfl, hB1⟩)
  refine (marks_val (some ⟨b, off, none⟩) cap l hlen hcap w1 (hG.up hB1) (env_keep hE hB1) (hT.up hB1)).mono ?_
  rintro e w2 ⟨go, c2, rfl, _, hr, hb2⟩
  have hB2 := Below.thn hB1 hb2
  clear hb2 hE
  cases hcut : cut rdN l 0 with
  | bad k =>
    obtain ⟨_, hkl, _⟩ := cut_bad_at rdN l 0 k hcut
    simp only [msC, fwC, faC]
    clear hr hcut hT hG
    go_wp2
    go_ret
    exact ⟨rfl, bal hB2⟩
  | ok ms =>
    have hcov := cov_of rdN l l 0 rfl (Nat.zero_le _) ms hcut
    have hne := cut_ne rdN _ _ _ hcut
    have hfew := cut_few _ _ _ hcut
    have hokn := okN_get (cut_okN _ _ _ hcut)
    rw [hcut] at hr
    simp only [msC, fwC, faC] at hr ⊢
    obtain ⟨g, og, rfl, hm4⟩ := hr.pl hne
    have hpos : 0 < ms.length := List.length_pos_iff.2 hne
    clear hcut hr
    have hB3 := bal (o := .cells #[.int .i64 0, .int .i64 0] 27) hB2
    have hm4' : ∀ t, t < ms.length → M4 (w2.alloc (.cells #[.int .i64 0, .int .i64 0] 27)) g (og + t * 4) (ms.getD t md) := fun t ht => (hm4 t ht).to (hm4 t ht).lt (below_alloc _ _)
    clear hm4
    have HV : Hid (Cov l 0 ms) := hcov
    clear hcov
    go_wp2
    generalize w2.alloc (.cells #[.int .i64 0, .int .i64 0] 27) = w3 at *
    go_loopw [5, 6] (fun a i wr => ∃ (k z : Nat), k ≤ ms.length ∧ a = .int .i64 z ∧ i = .int .i64 k ∧ z ≤ l.length ∧ Below w3.heap.size w3 wr ∧ Hid (if k < ms.length then Cov l z (ms.drop k) else z = l.length)) (fun _ i _ => ms.length - (intOf i).toNat)
    case atStart => exact ⟨0, 0, Nat.zero_le _, rfl, rfl, Nat.zero_le _, Below.refl _ _, by show (if _ then _ else _); rw [if_pos hpos]; exact HV⟩
    case round =>
      obtain ⟨k, z, hk, rfl, rfl, hz, hbr, hv⟩ := hrel
      have hBr := Below.thn hB3 hbr
      by_cases hlt : k < ms.length
      · have hv' : Cov l z (ms.drop k) := by have := (show (if k < ms.length then Cov l z (ms.drop k) else z = l.length) from hv); rw [if_pos hlt] at this; exact this
        rw [mdrop_at hlt] at hv'
        obtain ⟨m, hm⟩ : ∃ m, m = ms.getD k md := ⟨_, rfl⟩
        have hM := (hm4' k hlt).to (hm4' k hlt).lt hbr
        have hok := hokn k hlt
        rw [← hm] at hv' hM hok
        obtain ⟨v1, v2, v3, v4, v5⟩ := hv'
        obtain ⟨l1, l2, l3, l4⟩ := hM
        have hs := S4.new wr (.int .i64 0) (.string ⟨#[]⟩) (.complex .f64 0 0) (.int .i64 0)
        have hsz := bs_size m.text
        have HT : Hid (∀ t, t < l.length → wr.cell? ⟨b, off + t, none⟩ = some (.int .u8 ((l.getD t 0).toNat : Int))) := fun t ht => keep hBr (hT.cells t ht)
        have hGr := hG.up hBr
        clear hT hG hm4' hokn hm hv HV
        go_wp2_with (refine wpList_store4 rfl (.tmp 7) (.tmp 47) rfl wr.heap.size _ _ _ _ rfl rfl hs ⟨rfl, rfl, rfl, rfl⟩ ?_; intro w4 s4 oth4)
        have hb4 : Below wr.heap.size wr w4 := (below_alloc wr _).trans (oth4.below (Nat.le_refl _))
        have hB4 := Below.thn hBr hb4
        have hG4 := hGr.up hb4
        have hbr4 := Below.thn hbr hb4
        have hc4 : ∀ t, t < l.length → w4.cell? ⟨b, off + t, none⟩ = some (.int .u8 ((l.getD t 0).toNat : Int)) := fun t ht => keep hb4 ((show ∀ t, t < l.length → _ from HT) t ht)
        have hpt := part_cells hc4 m.at_ m.text.length v2
        rw [v3] at hpt
        have h1 : ∃ o1, (if cap = m.at_ then some (⟨b, off, none⟩ : Addr) else some ⟨b, off + m.at_, none⟩) = some ⟨b, o1, none⟩ ∧ ∀ t, t < m.text.length → w4.cell? ⟨b, o1 + t, none⟩ = some (.int .u8 ((m.text.getD t 0).toNat : Int)) := by
          by_cases e : cap = m.at_
          · exact ⟨off, by rw [if_pos e], fun t ht => absurd ht (by omega)⟩
          · exact ⟨off + m.at_, by rw [if_neg e], hpt⟩
        have hpf := part_cells hc4 z (m.at_ - z) (by omega)
        have h2 : ∃ o2, (if cap = z then some (⟨b, off, none⟩ : Addr) else some ⟨b, off + z, none⟩) = some ⟨b, o2, none⟩ ∧ ∀ t, t < m.at_ - z → w4.cell? ⟨b, o2 + t, none⟩ = some (.int .u8 ((((l.drop z).take (m.at_ - z)).getD t 0).toNat : Int)) := by
          by_cases e : cap = z
          · exact ⟨off, by rw [if_pos e], fun t ht => absurd ht (by omega)⟩
          · exact ⟨off + z, by rw [if_neg e], hpf⟩
        obtain ⟨o1, e1, h1⟩ := h1
        obtain ⟨o2, e2, h2⟩ := h2
        have hcv := fun q => run_conv (w4.drewN q) b o1 m.text.length (cap - m.at_) m.text rfl (fun t ht => h1 t ht)
        have hcv0 := run_conv w4 b o1 m.text.length (cap - m.at_) m.text rfl h1
        have hfr := fun q => free_at b o2 (cap - z) (m.at_ - z) ((l.drop z).take (m.at_ - z)) (by simp; omega) (by simp; omega) (w4.drewN q) (fun t ht => h2 t ht)
        rw [v4] at hfr
        have hnm : ((m.at_ : Int) + (m.text.length : Int)).toNat - m.at_ = m.text.length := by omega
        obtain ⟨t1, t2, t3, t4⟩ := s4.cells
        have d1 : decide ((m.at_ : Int) < (z : Int)) = false := by rw [decide_eq_false_iff_not]; omega
        have d2 : decide ((l.length : Int) < (m.at_ : Int)) = false := by rw [decide_eq_false_iff_not]; omega
        have d3 : decide ((l.length : Int) - (m.at_ : Int) < (m.text.length : Int)) = false := by rw [decide_eq_false_iff_not]; omega
        have d4 : decide (l.length < m.at_) = false := by rw [decide_eq_false_iff_not]; omega
        have d5 : decide (m.at_ < z) = false := by rw [decide_eq_false_iff_not]; omega
        have d6 : decide ((m.text.length : Int) > (l.length : Int) - (m.at_ : Int)) = false := by rw [decide_eq_false_iff_not]; omega
        have d7 : decide ((m.at_ : Int) > (l.length : Int)) = false := by rw [decide_eq_false_iff_not]; omega
        have w1' : IntKind.i64.wrap ((l.length : Int) - (m.at_ : Int)) = (l.length : Int) - (m.at_ : Int) := by rw [IntKind.wrap_i64]; omega
        have w2' : IntKind.i64.wrap ((m.at_ : Int) + (m.text.length : Int)) = (m.at_ : Int) + (m.text.length : Int) := by rw [IntKind.wrap_i64]; omega
        have i1 : (0 : Int) ≤ (m.at_ : Int) := by omega
        have i2 : (m.at_ : Int) + (m.text.length : Int) ≤ (cap : Int) := by omega
        have i3 : (0 : Int) ≤ (m.at_ : Int) + (m.text.length : Int) := by omega
        have i4 : (m.at_ : Int) ≤ (m.at_ : Int) + (m.text.length : Int) := by omega
        have i5 : (z : Int) ≤ (m.at_ : Int) := by omega
        have i6 : (m.at_ : Int) ≤ (cap : Int) := by omega
        clear hc4 hpt hpf hs hB3 hbr hb4 h1 h2
        have hfin : Hid (k + 1 ≤ ms.length ∧ m.at_ + m.text.length ≤ l.length ∧ (if k + 1 < ms.length then Cov l (m.at_ + m.text.length) (ms.drop (k + 1)) else m.at_ + m.text.length = l.length)) := by
          refine ⟨hlt, v2, ?_⟩
          rcases v5 with ⟨h0, he⟩ | ⟨h0, _, hcv'⟩
          · have : ¬ k + 1 < ms.length := by
              intro h
              have := congrArg List.length h0
              simp at this
              omega
            rw [if_neg this, he]
            rfl
          · have : k + 1 < ms.length := by
              rcases Nat.lt_or_ge (k + 1) ms.length with h | h
              · exact h
              · exact absurd (List.drop_eq_nil_of_le h) h0
            rw [if_pos this]
            exact hcv'
        have hcase : ∃ E W Z : Bool, (m.kind == 4) = E ∧ ((k : Int) == (ms.length : Int) - 1) = E ∧ (bs m.text).toList.isEmpty = E ∧ isWd m.text = W ∧ (m.kind == 1) = W ∧ (m.kind != 2) = Z ∧ (Z = true → m.p = 0 ∧ m.q = 0) := by
          rw [bs_toList]
          rcases v5 with ⟨h0, he⟩ | ⟨h0, ⟨k1, k2, k3, k4⟩, _⟩
          · have : k + 1 = ms.length := by
              have := congrArg List.length h0
              simp at this
              omega
            refine ⟨true, false, true, ?_, ?_, ?_, ?_, ?_, ?_, fun _ => ?_⟩
            · rw [he]; rfl
            · rw [beq_iff_eq]; omega
            · rw [he]; rfl
            · rw [he]; rfl
            · rw [he]; rfl
            · rw [he]; rfl
            · rw [he]; exact ⟨rfl, rfl⟩
          · have : k + 1 < ms.length := by
              rcases Nat.lt_or_ge (k + 1) ms.length with h | h
              · exact h
              · exact absurd (List.drop_eq_nil_of_le h) h0
            refine ⟨false, isWd m.text, m.kind != 2, ?_, ?_, ?_, rfl, ?_, rfl, fun h => ?_⟩
            · rw [beq_eq_false_iff_ne]; exact k1
            · rw [beq_eq_false_iff_ne]; omega
            · simp [k2]
            · rw [Bool.eq_iff_iff, beq_iff_eq]; exact k3
            · exact k4 (by simpa using h)
        obtain ⟨E, W, Z, g1, g2, g3, g4, g5, g6, g7⟩ := hcase
        have hwl : IntKind.i64.wrap ((ms.length : Int) - 1) = (ms.length : Int) - 1 := by rw [IntKind.wrap_i64]; omega
        clear v5
        go_quiet (first | (go_at_call 17; refine Calls.quiet_of_same (hfr _)))
        go_wp2
        generalize hw5 : w4.drewN _ = w5
        have s5 : S4 w5 wr.heap.size (.int .i64 m.kind) (.string (bs m.text)) (.complex .f64 (fl m.p) (fl m.q)) (.int .i64 m.at_) := by rw [← hw5]; exact s4
        have hG5 : Gl w5 := by rw [← hw5]; exact ⟨hG4.wd, hG4.sg⟩
        have hbr5 : Below w3.heap.size w3 w5 := by rw [← hw5]; exact below_drewN hbr4 _
        clear hw5 s4 hG4 hbr4 t1 t2 t3 t4 hcv hcv0 hfr e1 e2 hB4 hGr
        obtain ⟨t1, t2, t3, t4⟩ := s5.cells
        have hrs := fun q => reserved_any m.text (w5.drewN q) ⟨hG5.wd, hG5.sg⟩
        rw [g4] at hrs
        clear g4
        cases Z with
        | true =>
          obtain ⟨hp0, hq0⟩ := g7 rfl
          rw [hp0, hq0, fl_zero] at t3
          clear g7 hp0 hq0
          go_quiet (first | (go_at_call 15; refine Calls.quiet_of_same (hrs _)))
          go_wp2
          go_roundw
          case rel => exact ⟨k + 1, m.at_ + m.text.length, (show _ ∧ _ from hfin).1, by go_num, by go_num, (show _ ∧ _ from hfin).2.1, below_drewN hbr5 _, (show _ ∧ _ from hfin).2.2⟩
          case measure => simp [intOf]; omega
        | false =>
          clear g7
          go_quiet (first | (go_at_call 15; refine Calls.quiet_of_same (hrs _)))
          go_wp2
          go_roundw
          case rel => exact ⟨k + 1, m.at_ + m.text.length, (show _ ∧ _ from hfin).1, by go_num, by go_num, (show _ ∧ _ from hfin).2.1, below_drewN hbr5 _, (show _ ∧ _ from hfin).2.2⟩
          case measure => simp [intOf]; omega
      · have hke : k = ms.length := by omega
        have hz2 : z = l.length := by have := (show (if k < ms.length then Cov l z (ms.drop k) else z = l.length) from hv); rw [if_neg hlt] at this; exact this
        subst hke
        subst hz2
        clear hv HV hm4' hT hG
        go_wp2
        go_ret
        exact ⟨rfl, hBr⟩
end Go.Proofs.YtknpdjbcemgenaaDoor
