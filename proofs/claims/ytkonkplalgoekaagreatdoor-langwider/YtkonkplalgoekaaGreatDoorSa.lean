/-
  Trees laid in memory, part by part; the walk of nest.
-/
import Derived.Test.YtkonkplalgoekaaGreatDoorNf
import Derived.Test.YtkonkplalgoekaaGreatDoorGy
import Derived.Test.YtkonkplalgoekaaGreatDoorMi
import Derived.RegionTactic
namespace Go.Proofs.YtkonkplalgoekaaGreatDoor
open Go.RowKit
set_option maxRecDepth 100000

theorem ElW.at {w : World} {A : Nat → Prop} : ∀ {xs : List Ex} {b off : Nat}, ElW w A (some ⟨b, off, none⟩) xs → ∀ k, k < xs.length → ∃ vs, w.rangeAt b (off + k * 7) vs ∧ ExW w A (xs.getD k ed) vs
  | [], _, _, _, k, hk => by simp at hk
  | _ :: _, _, _, h, 0, _ => by
    cases h with
    | cons h1 h2 h3 h4 => exact ⟨_, by simpa using h2, h3⟩
  | _ :: _, _, off, h, k + 1, hk => by
    cases h with
    | cons h1 h2 h3 h4 =>
      obtain ⟨vs, a, b⟩ := h4.at k (by simpa using hk)
      refine ⟨vs, ?_, by rw [List.getD_cons_succ]; exact b⟩
      rw [show off + (k + 1) * 7 = off + 7 + k * 7 by omega]
      exact a
theorem ElW.place {w : World} {A : Nat → Prop} {ao : Option Addr} {xs : List Ex} (h : ElW w A ao xs) (hx : xs ≠ []) : ∃ b off, ao = some ⟨b, off, none⟩ := by
  cases h with
  | nil => exact absurd rfl hx
  | cons => exact ⟨_, _, rfl⟩
theorem ElW.up {w w' : World} {A : Nat → Prop} {ao : Option Addr} {xs : List Ex} (h : ElW w A ao xs) (hb : Below w.heap.size w w') : ElW w' A ao xs := h.keep fun b _ hl => hb.block b hl

theorem range7 {w : World} {b o : Nat} {x0 x1 x2 x3 x4 x5 x6 : Value} (h : w.rangeAt b o [x0, x1, x2, x3, x4, x5, x6]) : w.cell? ⟨b, o, none⟩ = some x0 ∧ w.cell? ⟨b, o + 1, none⟩ = some x1 ∧ w.cell? ⟨b, o + 2, none⟩ = some x2 ∧ w.cell? ⟨b, o + 3, none⟩ = some x3 ∧
    w.cell? ⟨b, o + 4, none⟩ = some x4 ∧ w.cell? ⟨b, o + 5, none⟩ = some x5 ∧ w.cell? ⟨b, o + 6, none⟩ = some x6 :=
  ⟨h 0 _ rfl, h 1 _ rfl, h 2 _ rfl, h 3 _ rfl, h 4 _ rfl, h 5 _ rfl, h 6 _ rfl⟩

/-! ## nest -/
set_option maxHeartbeats 4000000 in
theorem nest_any : ∀ (n : Nat) (t : Ex), szE t ≤ n → n ≤ 1073741824 → ∀ (w : World) (A : Nat → Prop) (vs : List Value), ExW w A t vs →
    Calls Tryz.prog 15 #[.agg vs.toArray] w fun e w' => e = .returned (.int .i64 (nE t : Nat)) ∧ Below w.heap.size w w' := by
  intro n
  induction n with
  | zero => intro t h; have := szE_pos t; omega
  | succ n ih =>
    intro t ht hn w A vs hx
    obtain ⟨op, name, tail, ty, p, q, xs, pos⟩ := t
    cases hx with
    | mk hl =>
      rename_i ao c
      rw [szE_mk] at ht
      have hlen := length_szL xs
      have hnl := nL_le xs
      have hb0 := below_alloc w (.cells #[.int .i64 op, .string (bs name), .string (bs tail), .int .i64 ty, .complex .f64 (fl p) (fl q), .slice ao xs.length c, .int .i64 pos] 50)
      have hL0 := Bk.new w 50 #[.int .i64 op, .string (bs name), .string (bs tail), .int .i64 ty, .complex .f64 (fl p) (fl q), .slice ao xs.length c, .int .i64 pos]
      have hl0 := hl.up hb0
      go_enter Tryz.func15, Tryz.ntmps15
      go_wp2
      obtain ⟨W0, hW0⟩ : ∃ W0, W0 = w.alloc (.cells #[.int .i64 op, .string (bs name), .string (bs tail), .int .i64 ty, .complex .f64 (fl p) (fl q), .slice ao xs.length c, .int .i64 pos] 50) := ⟨_, rfl⟩
      rw [← hW0] at hb0 hL0 hl0 ⊢
      clear hW0
      go_loopw [3, 4] (fun a i wr => ∃ k : Nat, k ≤ xs.length ∧ a = .int .i64 (nL (xs.take k) : Nat) ∧ i = .int .i64 k ∧ Below W0.heap.size W0 wr) (fun _ i _ => xs.length - (intOf i).toNat)
      case atStart => exact ⟨0, Nat.zero_le _, by simp [nL_nil], rfl, Below.refl _ _⟩
      case round =>
        obtain ⟨k, hkn, rfl, rfl, hB⟩ := hrel
        obtain ⟨c0, _, _, _, _, c5, _⟩ := Bk.seven (show Bk wr w.heap.size 50 [_, _, _, _, _, _, _] from hL0.up hB)
        by_cases hlt : k < xs.length
        · obtain ⟨b, off, rfl⟩ := hl0.place (by intro e; simp [e] at hlt)
          obtain ⟨us, hu, hxu⟩ := (hl0.up hB).at k hlt
          have hsz := szE_at xs k hlt
          have hcall := ih (xs.getD k ed) (by omega) (by omega) wr A us hxu
          obtain ⟨u0, u1, u2, u3, u4, u5, u6, rfl⟩ := list7 hxu.len
          have htk := nL_take xs k hlt
          obtain ⟨y, hy⟩ : ∃ y, y = xs.getD k ed := ⟨_, rfl⟩
          rw [← hy] at hcall htk
          clear hy
          go_wp2_with (first
            | refine wpList_loadN rfl 50 (.tmp 16) rfl b (off + k * 7) rfl [u0, u1, u2, u3, u4, u5, u6] _ hu Tryz.underE Tryz.infoE ?_)
          refine hcall.mono ?_
          rintro e w2 ⟨rfl, hb2⟩
          have hB2 := Below.thn hB hb2
          go_wp2
          go_roundw
          case rel => exact ⟨k + 1, by omega, by rw [htk]; go_num, by go_num, hB2⟩
          case measure => simp [intOf]; omega
        · have hke : k = xs.length := by omega
          subst hke
          rw [List.take_length]
          have hB3 := Below.thn hb0 hB
          by_cases h21 : op = 21
          · subst h21
            go_wp2
            go_ret
            exact ⟨by simp [nE_mk], hB3⟩
          · by_cases h22 : op = 22
            · subst h22
              go_wp2
              go_ret
              exact ⟨by simp [nE_mk], hB3⟩
            · by_cases h20 : op = 20
              · subst h20
                go_wp2
                go_ret
                exact ⟨by simp [nE_mk], hB3⟩
              · have e1 : (op == 21) = false := by simpa using h21
                have e2 : (op == 22) = false := by simpa using h22
                have e3 : (op == 20) = false := by simpa using h20
                go_wp2
                go_ret
                exact ⟨by simp [nE_mk, h20, h21, h22], hB3⟩
end Go.Proofs.YtkonkplalgoekaaGreatDoor
