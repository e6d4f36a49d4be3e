/-
  The walk of the document's Text.
-/
import Derived.Test.YtbgggbkmnfppoaaGreatDoorVj
namespace Go.Proofs.YtbgggbkmnfppoaaGreatDoor
open Go.RowKit
open Go.Lib
set_option maxRecDepth 100000

/-- Bytes of the call's own, as a text. -/
theorem conv_own {w : World} {B : Nat} {v : Value} {l : List UInt8} (h : OwB w B v l) : (convert 55 9 v).run Tryz.prog w = .ok (.string (bs l)) w := by
  rcases h.2 with ⟨rfl, h0⟩ | ⟨g, cap, cur, rfl, _⟩
  · have e := List.length_eq_zero_iff.1 h0
    subst e
    rw [run_convert_bytes_string w 55 9 5 _ _ _ (by kernel_rfl) (by kernel_rfl) (by kernel_rfl)]
    rfl
  · refine run_convert_bytes_back (P := Tryz.prog) w 55 9 5 ⟨g, 0, none⟩ cap l (by kernel_rfl) (by kernel_rfl) (by kernel_rfl) fun j hj => ?_
    exact h.cells (g := g) rfl j (.int .u8 (l[j].toNat : Int)) (by simp [Lib.byteCells, hj])

set_option maxHeartbeats 2000000 in
theorem rlist_any (ys : List Zn) (hok : ∀ y ∈ ys, okZ y) (ao : Option Addr) (cap : Nat) (w : World) (h : Vr w ao (ofV (.l ys))) :
    Calls Tryz.prog 11 #[vV ao cap (ofV (.l ys))] w fun e w' => txR (ofV (.l ys)) e ∧ Below w.heap.size w w' := by
  have m := V4.new w ao cap (ofV (.l ys))
  have k := h.alloc (vObj ao cap (ofV (.l ys)))
  have b0 := below_alloc w (vObj ao cap (ofV (.l ys)))
  have s1 := rvalid_any _ ao cap _ k
  rw [sound_ofV (u := .l ys) hok] at s1
  have KEY : Hid (∀ e, e = .returned (.tuple #[.string (bs (91 :: (inner ys ++ [93]))), .int .i64 0]) → txR (ofV (.l ys)) e) := fun e he => txR_yes (u := .l ys) hok rfl he
  generalize txR (ofV (.l ys)) = Q at *
  obtain ⟨n, hn⟩ : ∃ n, Hid (n = ys.length) := ⟨_, rfl⟩
  have hl := h.n
  simp only [ofV, List.length_map] at hl
  rw [← hn.out] at hl
  have hI := fun k => inner_len (ys := ys.take k) (fun y hy => hok y (List.mem_of_mem_take hy))
  have hII := inner_len hok
  unfold vV vObj at *
  clear h
  go_enter Tryz.func11, Tryz.ntmps11
  go_wp2_with fail
  refine s1.mono ?_
  rintro e w1 ⟨rfl, hb1⟩
  replace b0 := Below.thn b0 hb1
  replace m := m.up hb1
  replace k := k.up hb1
  have M : Hid (V4 w1 w.heap.size 0 ao cap (ofV (.l ys))) := m
  have KK : Hid (Zr w1 ao (ys.map wz)) := k.l
  obtain ⟨d1, d2, d3, d4⟩ := m
  simp only [Nat.zero_add, ofV, List.length_map] at d1 d2 d3 d4
  rw [← hn.out] at d4
  clear k s1 hb1
  go_wp2_with fail
  go_loopw [4, 5] (fun s i wr => ∃ k : Nat, k ≤ n ∧ i = .int .i64 k ∧ Below w1.heap.size w1 wr ∧ Hid (OwB wr w1.heap.size s (inner (ys.take k)))) (fun _ i _ => n - (RowKit.intOf i).toNat)
  case atStart => exact ⟨0, Nat.zero_le _, rfl, Below.refl _ _, ⟨rfl, .inl ⟨rfl, rfl⟩⟩⟩
  case round =>
    obtain ⟨k, hkn, rfl, hB, hW⟩ := hrel
    clear d1 d2 d3 d4
    obtain ⟨d1, d2, d3, d4⟩ := M.out.up hB
    simp only [Nat.zero_add, ofV, List.length_map] at d1 d2 d3 d4
    rw [← hn.out] at d4
    have hlk : (inner (ys.take k)).length ≤ 20 * k := by
      have := hI k
      rw [List.length_take] at this
      omega
    by_cases hlt : k < n
    · have hk : k < ys.length := by rw [← hn.out]; exact hlt
      obtain ⟨b, off, rfl, hc⟩ := (KK.out.up hB).pl (by intro e; have := congrArg List.length e; simp at this; rw [this] at hk; simp at hk)
      have hck := hc k (by simpa using hk)
      have hsn := inner_take hk
      have hlk1 : (inner (ys.take (k + 1))).length ≤ 20 * (k + 1) := by
        have := hI (k + 1)
        rw [List.length_take] at this
        omega
      have hgo := getD_ok hok hk
      rw [getD_map ys hk] at hck
      obtain ⟨y, hy⟩ : ∃ y, y = ys.getD k (0, 0) := ⟨_, rfl⟩
      rw [← hy] at hsn hck hgo
      have ht := fun W => number_any y hgo W
      have hBx : w.heap.size < w1.heap.size := M.out.lt
      have hBy : b < w1.heap.size := by
        obtain ⟨b', off', e', hc'⟩ := KK.out.pl (by intro e; have := congrArg List.length e; simp at this; rw [this] at hk; simp at hk)
        simp only [Option.some.injEq, Addr.mk.injEq, and_true] at e'
        rw [e'.1]
        exact cell_lt (hc' k (by simpa using hk))
      have HS : Hid (inner (ys.take (k + 1)) = inner (ys.take k) ++ ((if k = 0 then [] else [32]) ++ txZ y)) := hsn
      generalize wz y = z at *
      clear hc hsn hgo hy hk hI hII KK M KEY
      by_cases h0 : k = 0
      · subst h0
        simp only [Nat.add_zero] at hck
        go_wp2_with fail
        refine (ht _).mono ?_
        rintro e w2 ⟨rfl, hb2⟩
        obtain ⟨v', w3, hr, ho, hk3⟩ := own_str w2 _ _ _ (txZ y) (owns_up hW.out hb2) (Nat.le_trans hB.size hb2.size) (by rw [HS.out] at hlk1; simp at hlk1 ⊢; omega)
        have HR : Hid (_ = _) := hr
        clear hr
        go_wp2_with (at_builtin; refine wpList_append_str rfl (.tmp 32) (.tmp 38) 55 9 rfl rfl _ _ rfl rfl _ _ (show _ = _ from HR) ?_)
        go_roundw
        case rel =>
          refine ⟨1, by omega, by go_num, (Below.thn hB hb2).trans hk3.low, ?_⟩
          show OwB _ _ _ _
          rw [show (1 : Nat) = 0 + 1 from rfl, HS.out, if_pos trivial]
          exact ho
        case measure => simp [RowKit.intOf]; omega
      · have h0' : (0 : Int) < (k : Int) := by omega
        obtain ⟨v1, w2, hr1, ho1, hk1⟩ := own_byte wr _ _ _ 32 hW.out hB.size (by omega)
        have HR1 : Hid (_ = _) := hr1
        have hB2 := hB.trans hk1.low
        clear hr1 d1 d2 d3
        go_wp2_with (at_builtin; refine wpList_append_run rfl (.tmp 29) (.tmp 30) 55 rfl rfl _ _ rfl rfl _ _ (show _ = _ from HR1) ?_; have e4 := (hk1.low.cell (p := ⟨w.heap.size, 3, none⟩) hBx).trans d4; have eck := (hk1.low.cell (p := ⟨b, off + k, none⟩) hBy).trans hck)
        refine (ht _).mono ?_
        rintro e w3 ⟨rfl, hb3⟩
        obtain ⟨v', w4, hr, ho, hk4⟩ := own_str w3 _ _ _ (txZ y) (owns_up ho1 hb3) (Nat.le_trans hB2.size hb3.size) (by rw [HS.out, if_neg h0] at hlk1; simp at hlk1 ⊢; omega)
        have HR : Hid (_ = _) := hr
        clear hr
        go_wp2_with (at_builtin; refine wpList_append_str rfl (.tmp 32) (.tmp 38) 55 9 rfl rfl _ _ rfl rfl _ _ (show _ = _ from HR) ?_)
        go_roundw
        case rel =>
          refine ⟨k + 1, by omega, by go_num, (Below.thn hB2 hb3).trans hk4.low, ?_⟩
          show OwB _ _ _ _
          rw [HS.out, if_neg h0]
          rw [List.append_assoc] at ho
          exact ho
        case measure => simp [RowKit.intOf]; omega
    · have hke : k = n := by omega
      have htk : ys.take k = ys := List.take_of_length_le (by rw [← hn.out]; omega)
      rw [htk] at hlk
      have hW' := hW.out
      rw [htk] at hW'
      have hcv := conv_own hW'
      have es : (bs (inner ys)).size = (inner ys).length := bs_size _
      have e1 : (9223372036854775807 < 1 + (bs (inner ys)).size) = False := by rw [es]; apply eq_false; omega
      have e2 : (9223372036854775807 < (1 + (bs (inner ys)).size) + 1) = False := by rw [es]; apply eq_false; omega
      have HE : Hid ((⟨#[91]⟩ : ByteArray) ++ bs (inner ys) ++ ⟨#[93]⟩ = bs (91 :: (inner ys ++ [93]))) := by
        show _ = _
        rw [show (⟨#[91]⟩ : ByteArray) = bs [91] from rfl, show (⟨#[93]⟩ : ByteArray) = bs [93] from rfl, bs_app, bs_app]
        simp
      clear htk hI hII hW hW' M KK
      subst hke
      generalize bs (inner ys) = sb at *
      go_wp2
      go_ret2
      refine ⟨KEY.out _ ?_, Below.thn b0 hB⟩
      rw [← HE.out]
      rfl

set_option maxHeartbeats 1000000 in
theorem rtext_any (v : Rv) (ao : Option Addr) (cap : Nat) (w : World) (h : Vr w ao v) :
    Calls Tryz.prog 11 #[vV ao cap v] w fun e w' => txR v e ∧ Below w.heap.size w w' := by
  have m := V4.new w ao cap v
  have k := h.alloc (vObj ao cap v)
  have b0 := below_alloc w (vObj ao cap v)
  have s1 := rvalid_any v ao cap _ k
  cases hs : soundV v with
  | false =>
    have KEY : Hid (∀ e, e = .returned (.tuple #[.string ⟨#[]⟩, .int .i64 3]) → txR v e) := fun e he => txR_no hs he
    rw [hs] at s1
    generalize txR v = Q at *
    unfold vV vObj at *
    clear h m k hs
    go_enter Tryz.func11, Tryz.ntmps11
    go_wp2_with fail
    refine s1.mono ?_
    rintro e w1 ⟨rfl, hb1⟩
    go_wp2
    go_ret2
    exact ⟨KEY.out _ rfl, Below.thn b0 hb1⟩
  | true =>
    rw [hs] at s1
    obtain ⟨u, hu, e0⟩ := sound_is hs
    cases u with
    | l zs =>
      subst e0
      exact rlist_any zs hu ao cap w h
    | n z =>
      have KEY : Hid (∀ e, e = .returned (.tuple #[.string (bs (txV (.n z))), .int .i64 0]) → txR v e) := fun e he => txR_yes hu e0 he
      generalize txR v = Q at *
      subst e0
      unfold vV vObj at *
      clear hs h
      go_enter Tryz.func11, Tryz.ntmps11
      go_wp2_with fail
      refine s1.mono ?_
      rintro e w1 ⟨rfl, hb1⟩
      replace b0 := Below.thn b0 hb1
      obtain ⟨d1, d2, d3, d4⟩ := m.up hb1
      have ht := number_any z hu w1
      simp only [Nat.zero_add, ofV] at d1 d2 d3 d4
      clear s1 hb1 m k
      generalize wz z = y at *
      go_wp2_with fail
      refine ht.mono ?_
      rintro e w2 ⟨rfl, hb2⟩
      go_wp2
      go_ret2
      exact ⟨KEY.out _ rfl, Below.thn b0 hb2⟩
    | b r =>
      have KEY : Hid (∀ e, e = .returned (.tuple #[.string (bs (txV (.b r))), .int .i64 0]) → txR v e) := fun e he => txR_yes hu e0 he
      generalize txR v = Q at *
      subst e0
      unfold vV vObj at *
      clear hs h
      go_enter Tryz.func11, Tryz.ntmps11
      go_wp2_with fail
      refine s1.mono ?_
      rintro e w1 ⟨rfl, hb1⟩
      replace b0 := Below.thn b0 hb1
      obtain ⟨d1, d2, d3, d4⟩ := m.up hb1
      simp only [Nat.zero_add, ofV] at d1 d2 d3 d4
      clear s1 hb1 m k
      cases r
      all_goals
        go_wp2
        go_ret2
        exact ⟨KEY.out _ rfl, b0⟩
end Go.Proofs.YtbgggbkmnfppoaaGreatDoor
