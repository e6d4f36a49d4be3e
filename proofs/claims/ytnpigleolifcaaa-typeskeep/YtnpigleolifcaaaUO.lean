/-
  2 texts in one: what each proves stands at its head.
-/
import Derived.Test.YtnpigleolifcaaaUI
import Derived.Test.YtnpigleolifcaaaUA
import Derived.Test.YtnpigleolifcaaaUH
import Derived.RegionTactic
import Derived.Deep.DeepCutAuto
import Derived.Deep.RegionWith
/-
  Trees laid in memory, part by part; the walk of nest.
-/
namespace Go.Proofs.Ytnpigleolifcaaa
open Go.RowKit
set_option maxRecDepth 100000

theorem ElW.at {w : World} {A : Nat → Prop} : ∀ {xs : List Ex} {b off : Nat}, ElW w A (some ⟨b, off, none⟩) xs → ∀ k, k < xs.length → ∃ vs, w.rangeAt b (off + k * 7) vs ∧ ExW w A (xs.getD k ed) vs
  | [], _, _, _, k, hk => by simp at hk
  | _ :: _, _, _, h, 0, _ => by
    cases h with
    | cons h1 h2 h3 h4 => exact ⟨_, by simpa using h2, h3⟩
  | _ :: _, _, off, h, k + 1, hk => by
    cases h with
    | cons h1 h2 h3 h4 =>
      obtain ⟨vs, a, b⟩ := h4.at k (by simpa using hk)
      refine ⟨vs, ?_, by rw [List.getD_cons_succ]; exact b⟩
      rw [show off + (k + 1) * 7 = off + 7 + k * 7 by omega]
      exact a
theorem ElW.place {w : World} {A : Nat → Prop} {ao : Option Addr} {xs : List Ex} (h : ElW w A ao xs) (hx : xs ≠ []) : ∃ b off, ao = some ⟨b, off, none⟩ := by
  cases h with
  | nil => exact absurd rfl hx
  | cons => exact ⟨_, _, rfl⟩
theorem ElW.up {w w' : World} {A : Nat → Prop} {ao : Option Addr} {xs : List Ex} (h : ElW w A ao xs) (hb : Below w.heap.size w w') : ElW w' A ao xs := h.keep fun b _ hl => hb.block b hl

theorem range7 {w : World} {b o : Nat} {x0 x1 x2 x3 x4 x5 x6 : Value} (h : w.rangeAt b o [x0, x1, x2, x3, x4, x5, x6]) : w.cell? ⟨b, o, none⟩ = some x0 ∧ w.cell? ⟨b, o + 1, none⟩ = some x1 ∧ w.cell? ⟨b, o + 2, none⟩ = some x2 ∧ w.cell? ⟨b, o + 3, none⟩ = some x3 ∧
    w.cell? ⟨b, o + 4, none⟩ = some x4 ∧ w.cell? ⟨b, o + 5, none⟩ = some x5 ∧ w.cell? ⟨b, o + 6, none⟩ = some x6 :=
  ⟨h 0 _ rfl, h 1 _ rfl, h 2 _ rfl, h 3 _ rfl, h 4 _ rfl, h 5 _ rfl, h 6 _ rfl⟩

/-! ## nest -/
end Go.Proofs.Ytnpigleolifcaaa
/-
  The walk of SameExpr, at two trees that are one (with places, or but for them).
-/
namespace Go.Proofs.Ytnpigleolifcaaa
open Go.RowKit
set_option maxRecDepth 100000

theorem fl_word2 (p : Int) : ∃ (s : Bool) (r : Nat), fl p = Ieee.double.word s r ∧ r ≤ Ieee.double.infRung := by
  unfold fl Ieee.Format.nearest
  split
  · exact ⟨_, 0, rfl, Nat.zero_le _⟩
  · exact ⟨_, _, rfl, Nat.min_le_right _ _⟩
theorem order_self (d : Ieee.Datum) (h : ∀ s t, d ≠ .nan s t) : d.order d = some .eq := by
  cases d with
  | number s m i => simp [Ieee.Datum.order]
  | infinity s => cases s <;> rfl
  | nan s t => exact absurd rfl (h s t)
theorem read_word2 (s : Bool) (r : Nat) (h : r ≤ Ieee.double.infRung) : ∀ a b, Ieee.double.read (Ieee.double.word s r) ≠ .nan a b := by
  have e1 : Ieee.double.signWeight = 9223372036854775808 := by decide
  have e2 : Ieee.double.infRung = 9218868437227405312 := by decide
  intro a b
  unfold Ieee.Format.read Ieee.Format.word
  rw [e2] at h
  have hm : (if s = true then Ieee.double.signWeight + r else r) % Ieee.double.signWeight = r := by
    rw [e1]
    split <;> omega
  rw [hm]
  dsimp only
  split
  · intro e; cases e
  · split
    · intro e; cases e
    · rename_i h2
      rw [e2] at h2 ⊢
      rw [if_pos (by omega)]
      intro e
      cases e
theorem ford_all (p : Int) : FloatKind.f64.format.order (fl p) (fl p) = some Ordering.eq := by
  obtain ⟨s, r, e, h⟩ := fl_word2 p
  exact order_self (Ieee.double.read (fl p)) (by rw [e]; exact read_word2 s r h)

/-- One place, where places count. -/
def pq (pl : Bool) (a b : Nat) : Prop := pl = true → a = b

set_option maxHeartbeats 8000000 in
theorem sameExpr_any (pl : Bool) : ∀ (n : Nat) (x y : Ex), szE x ≤ n → n ≤ 1073741824 → ExR (pq pl) x y → ∀ (w : World) (A A' : Nat → Prop) (us vs : List Value), ExW w A x us → ExW w A' y vs →
    Calls Try.prog 37 #[.agg us.toArray, .agg vs.toArray, .bool pl] w fun e w' => e = .returned (.bool true) ∧ Below w.heap.size w w' := by
  intro n
  induction n with
  | zero => intro x y h; have := szE_pos x; omega
  | succ n ih =>
    intro x y ht hn hr w A A' us vs hx hy
    cases hr with
    | mk hp hs =>
      rename_i op name tail ty p q xs ys i j
      cases hx with
      | mk hl =>
        rename_i ao c
        cases hy with
        | mk hl' =>
          rename_i ao' c'
          rw [szE_mk] at ht
          have hlen := length_szL xs
          have hle := hs.length
          rw [← hle]
          have HLE : Hid (xs.length = ys.length) := hle
          clear hle
          obtain ⟨V1, hV1⟩ : ∃ V : Array Value, V = #[.int .i64 op, .string (bs name), .string (bs tail), .int .i64 ty, .complex .f64 (fl p) (fl q), .slice ao xs.length c, .int .i64 i] := ⟨_, rfl⟩
          obtain ⟨V2, hV2⟩ : ∃ V : Array Value, V = #[.int .i64 op, .string (bs name), .string (bs tail), .int .i64 ty, .complex .f64 (fl p) (fl q), .slice ao' xs.length c', .int .i64 j] := ⟨_, rfl⟩
          have hb0 := below_two w (.cells V1 40) (.cells V2 40)
          have hL1 := (Bk.new w 40 V1).up (below_alloc _ (.cells V2 40))
          have hL2 := Bk.newAt (w := w.alloc (.cells V1 40)) (n := w.heap.size + 1) 40 V2 (by simp)
          have hl1 := hl.up hb0
          have hl2 := hl'.up hb0
          rw [hV1, hV2] at hb0 hL1 hL2 hl1 hl2
          clear hV1 hV2 hl hl'
          go_enter Try.func37, Try.ntmps37
          go_upto_region 1 with fail
          obtain ⟨W2, hW2⟩ : ∃ W2, W2 = (w.alloc (.cells #[.int .i64 op, .string (bs name), .string (bs tail), .int .i64 ty, .complex .f64 (fl p) (fl q), .slice ao xs.length c, .int .i64 i] 40)).alloc (.cells #[.int .i64 op, .string (bs name), .string (bs tail), .int .i64 ty, .complex .f64 (fl p) (fl q), .slice ao' xs.length c', .int .i64 j] 40) := ⟨_, rfl⟩
          rw [← hW2] at hb0 hL1 hL2 hl1 hl2 ⊢
          clear hW2
          obtain ⟨a0, a1, a2, a3, a4, a5, a6⟩ := Bk.seven (show Bk W2 w.heap.size 40 [_, _, _, _, _, _, _] from hL1)
          obtain ⟨b0, b1, b2, b3, b4, b5, b6⟩ := Bk.seven (show Bk W2 (w.heap.size + 1) 40 [_, _, _, _, _, _, _] from hL2)
          have ho1 := ford_all p
          have ho2 := ford_all q
          have HP : Hid (pq pl i j) := hp
          clear hp
          cases pl with
          | true =>
            have hij : i = j := (show pq true i j from HP) rfl
            subst hij
            clear HP
            go_wp2
            clear a0 a1 a2 a3 a4 a5 a6 b0 b1 b2 b3 b4 b5 b6 ho1 ho2
            go_loopw [7] (fun v wr => ∃ k : Nat, k ≤ xs.length ∧ v = .int .i64 k ∧ Below W2.heap.size W2 wr) (fun v _ => xs.length - (intOf v).toNat)
            case atStart => exact ⟨0, Nat.zero_le _, rfl, Below.refl _ _⟩
            case round =>
              obtain ⟨k, hkn, rfl, hB⟩ := hrel
              obtain ⟨_, _, _, _, _, a5, _⟩ := Bk.seven (show Bk wr w.heap.size 40 [_, _, _, _, _, _, _] from hL1.up hB)
              obtain ⟨_, _, _, _, _, b5, _⟩ := Bk.seven (show Bk wr (w.heap.size + 1) 40 [_, _, _, _, _, _, _] from hL2.up hB)
              by_cases hlt : k < xs.length
              · obtain ⟨b, off, rfl⟩ := hl1.place (by intro e; simp [e] at hlt)
                have hlt' : k < ys.length := by rw [← show xs.length = ys.length from HLE]; exact hlt
                obtain ⟨b', off', rfl⟩ := hl2.place (by intro e; simp [e] at hlt')
                obtain ⟨us, hu, hxu⟩ := (hl1.up hB).at k hlt
                obtain ⟨vs, hv, hxv⟩ := (hl2.up hB).at k hlt'
                have hsz := szE_at xs k hlt
                have hcall : ∀ W, Below wr.heap.size wr W → Calls Try.prog 37 #[.agg us.toArray, .agg vs.toArray, .bool true] W fun e w' => e = .returned (.bool true) ∧ Below W.heap.size W w' :=
                  fun W hW => ih _ _ (by omega) (by omega) ((show ExsR (pq true) xs ys from hs).at k hlt) W A A' us vs (hxu.up hW) (hxv.up hW)
                obtain ⟨u0, u1, u2, u3, u4, u5, u6, rfl⟩ := list7 hxu.len
                obtain ⟨v0, v1, v2, v3, v4, v5, v6, rfl⟩ := list7 hxv.len
                obtain ⟨c0, c1, c2, c3, c4, c5, c6⟩ := range7 hu
                obtain ⟨d0, d1, d2, d3, d4, d5, d6⟩ := range7 hv
                clear hu hv hxu hxv
                go_wp2
                go_region_with (go_at_call 37; refine (hcall _ (Below.refl _ wr).drew).mono ?_; rintro e w7 ⟨rfl, hb7⟩; have q7 := Below.thn hB (Below.thn (Below.refl _ wr).drew hb7))
                all_goals
                  go_wp2
                  go_roundw
                  case rel => exact ⟨k + 1, by omega, by go_num, q7⟩
                  case measure => simp [intOf]; omega
              · have hke : k = xs.length := by omega
                subst hke
                have hB3 := Below.thn hb0 hB
                go_wp2
                go_ret
                exact ⟨rfl, hB3⟩
          | false =>
            clear HP
            go_wp2
            clear a0 a1 a2 a3 a4 a5 a6 b0 b1 b2 b3 b4 b5 b6 ho1 ho2
            go_loopw [7] (fun v wr => ∃ k : Nat, k ≤ xs.length ∧ v = .int .i64 k ∧ Below W2.heap.size W2 wr) (fun v _ => xs.length - (intOf v).toNat)
            case atStart => exact ⟨0, Nat.zero_le _, rfl, Below.refl _ _⟩
            case round =>
              obtain ⟨k, hkn, rfl, hB⟩ := hrel
              obtain ⟨_, _, _, _, _, a5, _⟩ := Bk.seven (show Bk wr w.heap.size 40 [_, _, _, _, _, _, _] from hL1.up hB)
              obtain ⟨_, _, _, _, _, b5, _⟩ := Bk.seven (show Bk wr (w.heap.size + 1) 40 [_, _, _, _, _, _, _] from hL2.up hB)
              by_cases hlt : k < xs.length
              · obtain ⟨b, off, rfl⟩ := hl1.place (by intro e; simp [e] at hlt)
                have hlt' : k < ys.length := by rw [← show xs.length = ys.length from HLE]; exact hlt
                obtain ⟨b', off', rfl⟩ := hl2.place (by intro e; simp [e] at hlt')
                obtain ⟨us, hu, hxu⟩ := (hl1.up hB).at k hlt
                obtain ⟨vs, hv, hxv⟩ := (hl2.up hB).at k hlt'
                have hsz := szE_at xs k hlt
                have hcall : ∀ W, Below wr.heap.size wr W → Calls Try.prog 37 #[.agg us.toArray, .agg vs.toArray, .bool false] W fun e w' => e = .returned (.bool true) ∧ Below W.heap.size W w' :=
                  fun W hW => ih _ _ (by omega) (by omega) ((show ExsR (pq false) xs ys from hs).at k hlt) W A A' us vs (hxu.up hW) (hxv.up hW)
                obtain ⟨u0, u1, u2, u3, u4, u5, u6, rfl⟩ := list7 hxu.len
                obtain ⟨v0, v1, v2, v3, v4, v5, v6, rfl⟩ := list7 hxv.len
                obtain ⟨c0, c1, c2, c3, c4, c5, c6⟩ := range7 hu
                obtain ⟨d0, d1, d2, d3, d4, d5, d6⟩ := range7 hv
                clear hu hv hxu hxv
                go_wp2
                go_region_with (go_at_call 37; refine (hcall _ (Below.refl _ wr).drew).mono ?_; rintro e w7 ⟨rfl, hb7⟩; have q7 := Below.thn hB (Below.thn (Below.refl _ wr).drew hb7))
                all_goals
                  go_wp2
                  go_roundw
                  case rel => exact ⟨k + 1, by omega, by go_num, q7⟩
                  case measure => simp [intOf]; omega
              · have hke : k = xs.length := by omega
                subst hke
                have hB3 := Below.thn hb0 hB
                go_wp2
                go_ret
                exact ⟨rfl, hB3⟩
end Go.Proofs.Ytnpigleolifcaaa
