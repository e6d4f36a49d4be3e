/-
  Size and Nest: scope's and the document's.
-/
import Derived.Test.YtaneibojiamjeaaGreatDoorUl
namespace Go.Proofs.YtaneibojiamjeaaGreatDoor
open Go.RowKit Go.Maps
set_option maxRecDepth 100000

set_option maxHeartbeats 4000000 in
theorem size6_any : ∀ (n : Nat) (t : Ex), szE t ≤ n → n ≤ 1073741824 → ∀ (w : World) (A : Nat → Prop) (vs : List Value), ExW w A t vs →
    Calls Tryz.prog 21 #[.agg vs.toArray] w fun e w' => e = .returned (.int .i64 (szE t : Nat)) ∧ Below w.heap.size w w' := by
  intro n
  induction n with
  | zero => intro t h; have := szE_pos t; omega
  | succ n ih =>
    intro t ht hn w A vs hx
    obtain ⟨op, name, tail, ty, p, q, xs, pos⟩ := t
    cases hx with
    | mk hl =>
      rename_i ao c
      rw [szE_mk] at ht
      have hlen := length_szL xs
      have hb0 := below_alloc w (.cells #[.int .i64 op, .string (bs name), .string (bs tail), .int .i64 ty, .complex .f64 (fl p) (fl q), .slice ao xs.length c, .int .i64 pos] 43)
      have hL0 := Bk.new w 43 #[.int .i64 op, .string (bs name), .string (bs tail), .int .i64 ty, .complex .f64 (fl p) (fl q), .slice ao xs.length c, .int .i64 pos]
      have hl0 := hl.up hb0
      obtain ⟨c0, _, _, _, _, c5, _⟩ := Bk.seven (show Bk (w.alloc (.cells #[.int .i64 op, .string (bs name), .string (bs tail), .int .i64 ty, .complex .f64 (fl p) (fl q), .slice ao xs.length c, .int .i64 pos] 43)) w.heap.size 43 [_, _, _, _, _, _, _] from hL0)
      go_enter Tryz.func21, Tryz.ntmps21
      go_wp2
      obtain ⟨W0, hW0⟩ : ∃ W0, W0 = w.alloc (.cells #[.int .i64 op, .string (bs name), .string (bs tail), .int .i64 ty, .complex .f64 (fl p) (fl q), .slice ao xs.length c, .int .i64 pos] 43) := ⟨_, rfl⟩
      rw [← hW0] at hb0 hL0 hl0 c0 c5 ⊢
      clear hW0
      go_loopw [3, 9] (fun a i wr => ∃ k : Nat, k ≤ xs.length ∧ a = .int .i64 (szL (xs.take k) + 1 : Nat) ∧ i = .int .i64 k ∧ Below W0.heap.size W0 wr) (fun _ i _ => xs.length - (intOf i).toNat)
      case atStart => exact ⟨0, Nat.zero_le _, by simp [szL_nil], rfl, Below.refl _ _⟩
      case round =>
        obtain ⟨k, hkn, rfl, rfl, hB⟩ := hrel
        obtain ⟨d0, _, _, _, _, d5, _⟩ := Bk.seven (show Bk wr w.heap.size 43 [_, _, _, _, _, _, _] from hL0.up hB)
        clear c0 c5
        by_cases hlt : k < xs.length
        · obtain ⟨b, off, rfl⟩ := hl0.place (by intro e; simp [e] at hlt)
          obtain ⟨us, hu, hxu⟩ := (hl0.up hB).at k hlt
          have hsz := szE_at xs k hlt
          have hsl := szL_le xs (k + 1)
          have htk := szL_take xs k hlt
          obtain ⟨u0, u1, u2, u3, u4, u5, u6, rfl⟩ := list7 hxu.len
          have hone := hxu.one
          obtain ⟨y, hy⟩ : ∃ y, y = xs.getD k ed := ⟨_, rfl⟩
          rw [← hy] at htk hsz hxu
          clear hy
          have hbd : szL (xs.take k) + szE y ≤ szL xs := by omega
          have HTK : Hid _ := htk
          clear htk
          have hZ := Bk.new wr 43 #[.int .i64 0, .string ⟨#[]⟩, .string ⟨#[]⟩, .int .i64 0, .complex .f64 0 0, .slice none 0 0, .int .i64 0]
          go_upto_region 5 with (first
            | refine wpList_loadN rfl 43 (.tmp 11) rfl b (off + k * 7) rfl [u0, u1, u2, u3, u4, u5, u6] _ hu Tryz.underE Tryz.infoE ?_
            | (refine wpList_storeN rfl 43 (.tmp 5) (.tmp 12) rfl wr.heap.size 0 [u0, u1, u2, u3, u4, u5, u6] rfl rfl hZ (Nat.le_refl 7) Tryz.infoE hone ?_; intro w5 hV5 hO5))
          have hV5 : Bk w5 wr.heap.size 43 [u0, u1, u2, u3, u4, u5, u6] := hV5
          have hb5 : Below wr.heap.size wr w5 := (below_alloc wr _).trans (hO5.below (Nat.le_refl _))
          obtain ⟨e0, e1, e2, e3, e4, e5, e6⟩ := Bk.seven hV5
          have hcall := ih y (by omega) (by omega) w5 A [u0, u1, u2, u3, u4, u5, u6] (hxu.up hb5)
          have hB5 := Below.thn hB hb5
          clear hZ hO5 hV5 hb5 hu hxu d0 d5 hB
          go_wp2_with fail
          refine hcall.mono ?_
          rintro e w2 ⟨rfl, hb2⟩
          have hB2 := Below.thn hB5 hb2
          clear hcall
          go_wp2
          go_roundw
          case rel => exact ⟨k + 1, by omega, by rw [HTK.out]; go_num, by go_num, hB2⟩
          case measure => simp [intOf]; omega
        · have hke : k = xs.length := by omega
          subst hke
          rw [List.take_length]
          have HB3 : Hid (Below w.heap.size w wr) := Below.thn hb0 hB
          go_wp2
          go_ret
          exact ⟨by rw [szE_mk]; simp, HB3.out⟩
set_option maxHeartbeats 4000000 in
theorem nest6_any : ∀ (n : Nat) (t : Ex), szE t ≤ n → n ≤ 1073741824 → ∀ (w : World) (A : Nat → Prop) (vs : List Value), ExW w A t vs →
    Calls Tryz.prog 25 #[.agg vs.toArray] w fun e w' => e = .returned (.int .i64 (nE t : Nat)) ∧ Below w.heap.size w w' := by
  intro n
  induction n with
  | zero => intro t h; have := szE_pos t; omega
  | succ n ih =>
    intro t ht hn w A vs hx
    obtain ⟨op, name, tail, ty, p, q, xs, pos⟩ := t
    cases hx with
    | mk hl =>
      rename_i ao c
      rw [szE_mk] at ht
      have hlen := length_szL xs
      have hnl := nL_le xs
      have hb0 := below_alloc w (.cells #[.int .i64 op, .string (bs name), .string (bs tail), .int .i64 ty, .complex .f64 (fl p) (fl q), .slice ao xs.length c, .int .i64 pos] 43)
      have hL0 := Bk.new w 43 #[.int .i64 op, .string (bs name), .string (bs tail), .int .i64 ty, .complex .f64 (fl p) (fl q), .slice ao xs.length c, .int .i64 pos]
      have hl0 := hl.up hb0
      obtain ⟨c0, _, _, _, _, c5, _⟩ := Bk.seven (show Bk (w.alloc (.cells #[.int .i64 op, .string (bs name), .string (bs tail), .int .i64 ty, .complex .f64 (fl p) (fl q), .slice ao xs.length c, .int .i64 pos] 43)) w.heap.size 43 [_, _, _, _, _, _, _] from hL0)
      go_enter Tryz.func25, Tryz.ntmps25
      go_wp2
      obtain ⟨W0, hW0⟩ : ∃ W0, W0 = w.alloc (.cells #[.int .i64 op, .string (bs name), .string (bs tail), .int .i64 ty, .complex .f64 (fl p) (fl q), .slice ao xs.length c, .int .i64 pos] 43) := ⟨_, rfl⟩
      rw [← hW0] at hb0 hL0 hl0 c0 c5 ⊢
      clear hW0
      go_loopw [3, 9] (fun a i wr => ∃ k : Nat, k ≤ xs.length ∧ a = .int .i64 (nL (xs.take k) : Nat) ∧ i = .int .i64 k ∧ Below W0.heap.size W0 wr) (fun _ i _ => xs.length - (intOf i).toNat)
      case atStart => exact ⟨0, Nat.zero_le _, by simp [nL_nil], rfl, Below.refl _ _⟩
      case round =>
        obtain ⟨k, hkn, rfl, rfl, hB⟩ := hrel
        obtain ⟨d0, _, _, _, _, d5, _⟩ := Bk.seven (show Bk wr w.heap.size 43 [_, _, _, _, _, _, _] from hL0.up hB)
        clear c0 c5
        by_cases hlt : k < xs.length
        · obtain ⟨b, off, rfl⟩ := hl0.place (by intro e; simp [e] at hlt)
          obtain ⟨us, hu, hxu⟩ := (hl0.up hB).at k hlt
          have hsz := szE_at xs k hlt
          have hsl := szL_le xs (k + 1)
          have htk := nL_take xs k hlt
          obtain ⟨u0, u1, u2, u3, u4, u5, u6, rfl⟩ := list7 hxu.len
          have hone := hxu.one
          obtain ⟨y, hy⟩ : ∃ y, y = xs.getD k ed := ⟨_, rfl⟩
          rw [← hy] at htk hsz hxu
          clear hy
          have hbd : 0 = 0 := rfl
          have HTK : Hid _ := htk
          clear htk
          have hZ := Bk.new wr 43 #[.int .i64 0, .string ⟨#[]⟩, .string ⟨#[]⟩, .int .i64 0, .complex .f64 0 0, .slice none 0 0, .int .i64 0]
          go_upto_region 5 with (first
            | refine wpList_loadN rfl 43 (.tmp 11) rfl b (off + k * 7) rfl [u0, u1, u2, u3, u4, u5, u6] _ hu Tryz.underE Tryz.infoE ?_
            | (refine wpList_storeN rfl 43 (.tmp 5) (.tmp 12) rfl wr.heap.size 0 [u0, u1, u2, u3, u4, u5, u6] rfl rfl hZ (Nat.le_refl 7) Tryz.infoE hone ?_; intro w5 hV5 hO5))
          have hV5 : Bk w5 wr.heap.size 43 [u0, u1, u2, u3, u4, u5, u6] := hV5
          have hb5 : Below wr.heap.size wr w5 := (below_alloc wr _).trans (hO5.below (Nat.le_refl _))
          obtain ⟨e0, e1, e2, e3, e4, e5, e6⟩ := Bk.seven hV5
          have hcall := ih y (by omega) (by omega) w5 A [u0, u1, u2, u3, u4, u5, u6] (hxu.up hb5)
          have hB5 := Below.thn hB hb5
          clear hZ hO5 hV5 hb5 hu hxu d0 d5 hB
          go_wp2_with fail
          refine hcall.mono ?_
          rintro e w2 ⟨rfl, hb2⟩
          have hB2 := Below.thn hB5 hb2
          clear hcall
          go_wp2
          go_roundw
          case rel => exact ⟨k + 1, by omega, by rw [HTK.out]; go_num, by go_num, hB2⟩
          case measure => simp [intOf]; omega
        · have hke : k = xs.length := by omega
          subst hke
          rw [List.take_length]
          have HB3 : Hid (Below w.heap.size w wr) := Below.thn hb0 hB
          by_cases h21 : op = 21
          · subst h21
            go_wp2
            go_ret
            exact ⟨by simp [nE_mk], HB3.out⟩
          · have g21 : (op == 21) = false := by simpa using h21
            by_cases h22 : op = 22
            · subst h22
              go_wp2
              go_ret
              exact ⟨by simp [nE_mk], HB3.out⟩
            · have g22 : (op == 22) = false := by simpa using h22
              by_cases h20 : op = 20
              · subst h20
                go_wp2
                go_ret
                exact ⟨by simp [nE_mk], HB3.out⟩
              · have g20 : (op == 20) = false := by simpa using h20
                have e : nE (.mk op name tail ty p q xs pos) = nL xs := by simp [nE_mk, h20, h21, h22]
                go_wp2
                go_ret
                exact ⟨by rw [e]; rfl, HB3.out⟩
end Go.Proofs.YtaneibojiamjeaaGreatDoor
