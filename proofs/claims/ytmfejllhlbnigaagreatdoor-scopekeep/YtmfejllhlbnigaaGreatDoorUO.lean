/-
  3 texts in one: what each proves stands at its head.
-/
import Derived.Test.YtmfejllhlbnigaaGreatDoorUI
import Derived.Test.YtmfejllhlbnigaaGreatDoorUA
import Derived.Test.YtmfejllhlbnigaaGreatDoorUH
import Derived.RegionTactic
import Derived.Deep.DeepCutAuto
import Derived.Deep.RegionWith
import Derived.Test.YtmfejllhlbnigaaGreatDoorUM
/-
  Trees laid in memory, part by part; the walk of nest.
-/
namespace Go.Proofs.YtmfejllhlbnigaaGreatDoor
open Go.RowKit
set_option maxRecDepth 100000

theorem ElW.at {w : World} {A : Nat → Prop} : ∀ {xs : List Ex} {b off : Nat}, ElW w A (some ⟨b, off, none⟩) xs → ∀ k, k < xs.length → ∃ vs, w.rangeAt b (off + k * 7) vs ∧ ExW w A (xs.getD k ed) vs
  | [], _, _, _, k, hk => by simp at hk
  | _ :: _, _, _, h, 0, _ => by
    cases h with
    | cons h1 h2 h3 h4 => exact ⟨_, by simpa using h2, h3⟩
  | _ :: _, _, off, h, k + 1, hk => by
    cases h with
    | cons h1 h2 h3 h4 =>
      obtain ⟨vs, a, b⟩ := h4.at k (by simpa using hk)
      refine ⟨vs, ?_, by rw [List.getD_cons_succ]; exact b⟩
      rw [show off + (k + 1) * 7 = off + 7 + k * 7 by omega]
      exact a
theorem ElW.place {w : World} {A : Nat → Prop} {ao : Option Addr} {xs : List Ex} (h : ElW w A ao xs) (hx : xs ≠ []) : ∃ b off, ao = some ⟨b, off, none⟩ := by
  cases h with
  | nil => exact absurd rfl hx
  | cons => exact ⟨_, _, rfl⟩
theorem ElW.up {w w' : World} {A : Nat → Prop} {ao : Option Addr} {xs : List Ex} (h : ElW w A ao xs) (hb : Below w.heap.size w w') : ElW w' A ao xs := h.keep fun b _ hl => hb.block b hl

theorem range7 {w : World} {b o : Nat} {x0 x1 x2 x3 x4 x5 x6 : Value} (h : w.rangeAt b o [x0, x1, x2, x3, x4, x5, x6]) : w.cell? ⟨b, o, none⟩ = some x0 ∧ w.cell? ⟨b, o + 1, none⟩ = some x1 ∧ w.cell? ⟨b, o + 2, none⟩ = some x2 ∧ w.cell? ⟨b, o + 3, none⟩ = some x3 ∧
    w.cell? ⟨b, o + 4, none⟩ = some x4 ∧ w.cell? ⟨b, o + 5, none⟩ = some x5 ∧ w.cell? ⟨b, o + 6, none⟩ = some x6 :=
  ⟨h 0 _ rfl, h 1 _ rfl, h 2 _ rfl, h 3 _ rfl, h 4 _ rfl, h 5 _ rfl, h 6 _ rfl⟩

/-! ## nest -/
end Go.Proofs.YtmfejllhlbnigaaGreatDoor
/-
  The walk of SameExpr, at two trees that are one (with places, or but for them).
-/
namespace Go.Proofs.YtmfejllhlbnigaaGreatDoor
open Go.RowKit
set_option maxRecDepth 100000

theorem fl_word2 (p : Int) : ∃ (s : Bool) (r : Nat), fl p = Ieee.double.word s r ∧ r ≤ Ieee.double.infRung := by
  unfold fl Ieee.Format.nearest
  split
  · exact ⟨_, 0, rfl, Nat.zero_le _⟩
  · exact ⟨_, _, rfl, Nat.min_le_right _ _⟩
theorem order_self (d : Ieee.Datum) (h : ∀ s t, d ≠ .nan s t) : d.order d = some .eq := by
  cases d with
  | number s m i => simp [Ieee.Datum.order]
  | infinity s => cases s <;> rfl
  | nan s t => exact absurd rfl (h s t)
theorem read_word2 (s : Bool) (r : Nat) (h : r ≤ Ieee.double.infRung) : ∀ a b, Ieee.double.read (Ieee.double.word s r) ≠ .nan a b := by
  have e1 : Ieee.double.signWeight = 9223372036854775808 := by decide
  have e2 : Ieee.double.infRung = 9218868437227405312 := by decide
  intro a b
  unfold Ieee.Format.read Ieee.Format.word
  rw [e2] at h
  have hm : (if s = true then Ieee.double.signWeight + r else r) % Ieee.double.signWeight = r := by
    rw [e1]
    split <;> omega
  rw [hm]
  dsimp only
  split
  · intro e; cases e
  · split
    · intro e; cases e
    · rename_i h2
      rw [e2] at h2 ⊢
      rw [if_pos (by omega)]
      intro e
      cases e
theorem ford_all (p : Int) : FloatKind.f64.format.order (fl p) (fl p) = some Ordering.eq := by
  obtain ⟨s, r, e, h⟩ := fl_word2 p
  exact order_self (Ieee.double.read (fl p)) (by rw [e]; exact read_word2 s r h)

/-- One place, where places count. -/
def pq (pl : Bool) (a b : Nat) : Prop := pl = true → a = b

set_option maxHeartbeats 8000000 in
theorem sameExpr_any (pl : Bool) : ∀ (n : Nat) (x y : Ex), szE x ≤ n → n ≤ 1073741824 → ExR (pq pl) x y → ∀ (w : World) (A A' : Nat → Prop) (us vs : List Value), ExW w A x us → ExW w A' y vs →
    Calls Tryz.prog 63 #[.agg us.toArray, .agg vs.toArray, .bool pl] w fun e w' => e = .returned (.bool true) ∧ Below w.heap.size w w' := by
  intro n
  induction n with
  | zero => intro x y h; have := szE_pos x; omega
  | succ n ih =>
    intro x y ht hn hr w A A' us vs hx hy
    cases hr with
    | mk hp hs =>
      rename_i op name tail ty p q xs ys i j
      cases hx with
      | mk hl =>
        rename_i ao c
        cases hy with
        | mk hl' =>
          rename_i ao' c'
          rw [szE_mk] at ht
          have hlen := length_szL xs
          have hle := hs.length
          rw [← hle]
          have HLE : Hid (xs.length = ys.length) := hle
          clear hle
          obtain ⟨V1, hV1⟩ : ∃ V : Array Value, V = #[.int .i64 op, .string (bs name), .string (bs tail), .int .i64 ty, .complex .f64 (fl p) (fl q), .slice ao xs.length c, .int .i64 i] := ⟨_, rfl⟩
          obtain ⟨V2, hV2⟩ : ∃ V : Array Value, V = #[.int .i64 op, .string (bs name), .string (bs tail), .int .i64 ty, .complex .f64 (fl p) (fl q), .slice ao' xs.length c', .int .i64 j] := ⟨_, rfl⟩
          have hb0 := below_two w (.cells V1 43) (.cells V2 43)
          have hL1 := (Bk.new w 43 V1).up (below_alloc _ (.cells V2 43))
          have hL2 := Bk.newAt (w := w.alloc (.cells V1 43)) (n := w.heap.size + 1) 43 V2 (by simp)
          have hl1 := hl.up hb0
          have hl2 := hl'.up hb0
          rw [hV1, hV2] at hb0 hL1 hL2 hl1 hl2
          clear hV1 hV2 hl hl'
          go_enter Tryz.func63, Tryz.ntmps63
          go_upto_region 1 with fail
          obtain ⟨W2, hW2⟩ : ∃ W2, W2 = (w.alloc (.cells #[.int .i64 op, .string (bs name), .string (bs tail), .int .i64 ty, .complex .f64 (fl p) (fl q), .slice ao xs.length c, .int .i64 i] 43)).alloc (.cells #[.int .i64 op, .string (bs name), .string (bs tail), .int .i64 ty, .complex .f64 (fl p) (fl q), .slice ao' xs.length c', .int .i64 j] 43) := ⟨_, rfl⟩
          rw [← hW2] at hb0 hL1 hL2 hl1 hl2 ⊢
          clear hW2
          obtain ⟨a0, a1, a2, a3, a4, a5, a6⟩ := Bk.seven (show Bk W2 w.heap.size 43 [_, _, _, _, _, _, _] from hL1)
          obtain ⟨b0, b1, b2, b3, b4, b5, b6⟩ := Bk.seven (show Bk W2 (w.heap.size + 1) 43 [_, _, _, _, _, _, _] from hL2)
          have ho1 := ford_all p
          have ho2 := ford_all q
          have HP : Hid (pq pl i j) := hp
          clear hp
          cases pl with
          | true =>
            have hij : i = j := (show pq true i j from HP) rfl
            subst hij
            clear HP
            go_wp2
            clear a0 a1 a2 a3 a4 a5 a6 b0 b1 b2 b3 b4 b5 b6 ho1 ho2
            go_loopw [7] (fun v wr => ∃ k : Nat, k ≤ xs.length ∧ v = .int .i64 k ∧ Below W2.heap.size W2 wr) (fun v _ => xs.length - (intOf v).toNat)
            case atStart => exact ⟨0, Nat.zero_le _, rfl, Below.refl _ _⟩
            case round =>
              obtain ⟨k, hkn, rfl, hB⟩ := hrel
              obtain ⟨_, _, _, _, _, a5, _⟩ := Bk.seven (show Bk wr w.heap.size 43 [_, _, _, _, _, _, _] from hL1.up hB)
              obtain ⟨_, _, _, _, _, b5, _⟩ := Bk.seven (show Bk wr (w.heap.size + 1) 43 [_, _, _, _, _, _, _] from hL2.up hB)
              by_cases hlt : k < xs.length
              · obtain ⟨b, off, rfl⟩ := hl1.place (by intro e; simp [e] at hlt)
                have hlt' : k < ys.length := by rw [← show xs.length = ys.length from HLE]; exact hlt
                obtain ⟨b', off', rfl⟩ := hl2.place (by intro e; simp [e] at hlt')
                obtain ⟨us, hu, hxu⟩ := (hl1.up hB).at k hlt
                obtain ⟨vs, hv, hxv⟩ := (hl2.up hB).at k hlt'
                have hsz := szE_at xs k hlt
                have hcall : ∀ W, Below wr.heap.size wr W → Calls Tryz.prog 63 #[.agg us.toArray, .agg vs.toArray, .bool true] W fun e w' => e = .returned (.bool true) ∧ Below W.heap.size W w' :=
                  fun W hW => ih _ _ (by omega) (by omega) ((show ExsR (pq true) xs ys from hs).at k hlt) W A A' us vs (hxu.up hW) (hxv.up hW)
                obtain ⟨u0, u1, u2, u3, u4, u5, u6, rfl⟩ := list7 hxu.len
                obtain ⟨v0, v1, v2, v3, v4, v5, v6, rfl⟩ := list7 hxv.len
                obtain ⟨c0, c1, c2, c3, c4, c5, c6⟩ := range7 hu
                obtain ⟨d0, d1, d2, d3, d4, d5, d6⟩ := range7 hv
                clear hu hv hxu hxv
                go_wp2
                go_region_with (go_at_call 63; refine (hcall _ (Below.refl _ wr).drew).mono ?_; rintro e w7 ⟨rfl, hb7⟩; have q7 := Below.thn hB (Below.thn (Below.refl _ wr).drew hb7))
                all_goals
                  go_wp2
                  go_roundw
                  case rel => exact ⟨k + 1, by omega, by go_num, q7⟩
                  case measure => simp [intOf]; omega
              · have hke : k = xs.length := by omega
                subst hke
                have hB3 := Below.thn hb0 hB
                go_wp2
                go_ret
                exact ⟨rfl, hB3⟩
          | false =>
            clear HP
            go_wp2
            clear a0 a1 a2 a3 a4 a5 a6 b0 b1 b2 b3 b4 b5 b6 ho1 ho2
            go_loopw [7] (fun v wr => ∃ k : Nat, k ≤ xs.length ∧ v = .int .i64 k ∧ Below W2.heap.size W2 wr) (fun v _ => xs.length - (intOf v).toNat)
            case atStart => exact ⟨0, Nat.zero_le _, rfl, Below.refl _ _⟩
            case round =>
              obtain ⟨k, hkn, rfl, hB⟩ := hrel
              obtain ⟨_, _, _, _, _, a5, _⟩ := Bk.seven (show Bk wr w.heap.size 43 [_, _, _, _, _, _, _] from hL1.up hB)
              obtain ⟨_, _, _, _, _, b5, _⟩ := Bk.seven (show Bk wr (w.heap.size + 1) 43 [_, _, _, _, _, _, _] from hL2.up hB)
              by_cases hlt : k < xs.length
              · obtain ⟨b, off, rfl⟩ := hl1.place (by intro e; simp [e] at hlt)
                have hlt' : k < ys.length := by rw [← show xs.length = ys.length from HLE]; exact hlt
                obtain ⟨b', off', rfl⟩ := hl2.place (by intro e; simp [e] at hlt')
                obtain ⟨us, hu, hxu⟩ := (hl1.up hB).at k hlt
                obtain ⟨vs, hv, hxv⟩ := (hl2.up hB).at k hlt'
                have hsz := szE_at xs k hlt
                have hcall : ∀ W, Below wr.heap.size wr W → Calls Tryz.prog 63 #[.agg us.toArray, .agg vs.toArray, .bool false] W fun e w' => e = .returned (.bool true) ∧ Below W.heap.size W w' :=
                  fun W hW => ih _ _ (by omega) (by omega) ((show ExsR (pq false) xs ys from hs).at k hlt) W A A' us vs (hxu.up hW) (hxv.up hW)
                obtain ⟨u0, u1, u2, u3, u4, u5, u6, rfl⟩ := list7 hxu.len
                obtain ⟨v0, v1, v2, v3, v4, v5, v6, rfl⟩ := list7 hxv.len
                obtain ⟨c0, c1, c2, c3, c4, c5, c6⟩ := range7 hu
                obtain ⟨d0, d1, d2, d3, d4, d5, d6⟩ := range7 hv
                clear hu hv hxu hxv
                go_wp2
                go_region_with (go_at_call 63; refine (hcall _ (Below.refl _ wr).drew).mono ?_; rintro e w7 ⟨rfl, hb7⟩; have q7 := Below.thn hB (Below.thn (Below.refl _ wr).drew hb7))
                all_goals
                  go_wp2
                  go_roundw
                  case rel => exact ⟨k + 1, by omega, by go_num, q7⟩
                  case measure => simp [intOf]; omega
              · have hke : k = xs.length := by omega
                subst hke
                have hB3 := Below.thn hb0 hB
                go_wp2
                go_ret
                exact ⟨rfl, hB3⟩
end Go.Proofs.YtmfejllhlbnigaaGreatDoor
/-
  Definitions laid in memory, part by part; the walks of SameFunc and Same.
-/
namespace Go.Proofs.YtmfejllhlbnigaaGreatDoor
open Go.RowKit
set_option maxRecDepth 100000

theorem pmsC_get : ∀ (ps : List Pm) (k j : Nat) (v : Value), k < ps.length → (pmC (ps.getD k pd))[j]? = some v → (pmsC ps)[k * 3 + j]? = some v
  | [], k, _, _, h, _ => by simp at h
  | p :: ps, 0, j, v, _, h => by
    rw [List.getD_cons_zero] at h
    have hj := (List.getElem?_eq_some_iff.1 h).1
    rw [show pmsC (p :: ps) = pmC p ++ pmsC ps from rfl, Nat.zero_mul, Nat.zero_add, List.getElem?_append_left hj]
    exact h
  | p :: ps, k + 1, j, v, hk, h => by
    rw [show pmsC (p :: ps) = pmC p ++ pmsC ps from rfl, show (k + 1) * 3 + j = 3 + (k * 3 + j) by omega, List.getElem?_append_right (by simp [pmC]), show 3 + (k * 3 + j) - (pmC p).length = k * 3 + j by simp [pmC]]
    exact pmsC_get ps k j v (by simpa using hk) (by rwa [List.getD_cons_succ] at h)
theorem PlW.at {w : World} {A : Nat → Prop} {ao : Option Addr} {ps : List Pm} (h : PlW w A ao ps) (k : Nat) (hk : k < ps.length) : ∃ g, ao = some ⟨g, 0, none⟩ ∧ w.rangeAt g (k * 3) (pmC (ps.getD k pd)) := by
  rcases h with h | ⟨g, e, _, _, hr⟩
  · rw [h] at hk; simp at hk
  · refine ⟨g, e, fun j v hv => ?_⟩
    have := hr (k * 3 + j) v (pmsC_get ps k j v hk hv)
    rwa [Nat.zero_add] at this
theorem FsW.at {w : World} {A : Nat → Prop} : ∀ {gs : List Fn1} {cs : List Value}, FsW w A gs cs → ∀ k, k < gs.length → ∃ vs, (∀ j v, vs[j]? = some v → cs[k * 11 + j]? = some v) ∧ FnW w A (gs.getD k fd) vs
  | [], _, _, k, hk => by simp at hk
  | _ :: _, _, h, 0, _ => by
    cases h with
    | cons h1 h2 =>
      refine ⟨_, fun j v hv => ?_, h1⟩
      rw [Nat.zero_mul, Nat.zero_add, List.getElem?_append_left (List.getElem?_eq_some_iff.1 hv).1]
      exact hv
  | _ :: _, _, h, k + 1, hk => by
    cases h with
    | cons h1 h2 =>
      obtain ⟨vs, a, b⟩ := h2.at k (by simpa using hk)
      have hl := h1.len
      refine ⟨vs, fun j v hv => ?_, by rw [List.getD_cons_succ]; exact b⟩
      rw [show (k + 1) * 11 + j = 11 + (k * 11 + j) by omega, List.getElem?_append_right (by omega), hl, show 11 + (k * 11 + j) - 11 = k * 11 + j by omega]
      exact a j v hv
theorem FlW.at {w : World} {A : Nat → Prop} {ao : Option Addr} {gs : List Fn1} (h : FlW w A ao gs) (k : Nat) (hk : k < gs.length) : ∃ g vs, ao = some ⟨g, 0, none⟩ ∧ A g ∧ w.rangeAt g (k * 11) vs ∧ FnW w A (gs.getD k fd) vs := by
  rcases h with h | ⟨g, cs, e, hA, _, hr, hf⟩
  · rw [h] at hk; simp at hk
  · obtain ⟨vs, a, b⟩ := hf.at k hk
    refine ⟨g, vs, e, hA, fun j v hv => ?_, b⟩
    have := hr (k * 11 + j) v (a j v hv)
    rwa [Nat.zero_add] at this
theorem range11 {w : World} {b o : Nat} {x0 x1 x2 x3 x4 x5 x6 x7 x8 x9 x10 : Value} (h : w.rangeAt b o [x0, x1, x2, x3, x4, x5, x6, x7, x8, x9, x10]) : w.cell? ⟨b, o, none⟩ = some x0 ∧ w.cell? ⟨b, o + 1, none⟩ = some x1 ∧ w.cell? ⟨b, o + 2, none⟩ = some x2 ∧ w.cell? ⟨b, o + 3, none⟩ = some x3 ∧
    w.cell? ⟨b, o + 4, none⟩ = some x4 ∧ w.cell? ⟨b, o + 5, none⟩ = some x5 ∧ w.cell? ⟨b, o + 6, none⟩ = some x6 ∧ w.cell? ⟨b, o + 7, none⟩ = some x7 ∧ w.cell? ⟨b, o + 8, none⟩ = some x8 ∧ w.cell? ⟨b, o + 9, none⟩ = some x9 ∧ w.cell? ⟨b, o + 10, none⟩ = some x10 :=
  ⟨h 0 _ rfl, h 1 _ rfl, h 2 _ rfl, h 3 _ rfl, h 4 _ rfl, h 5 _ rfl, h 6 _ rfl, h 7 _ rfl, h 8 _ rfl, h 9 _ rfl, h 10 _ rfl⟩
theorem range3 {w : World} {b o : Nat} {x0 x1 x2 : Value} (h : w.rangeAt b o [x0, x1, x2]) : w.cell? ⟨b, o, none⟩ = some x0 ∧ w.cell? ⟨b, o + 1, none⟩ = some x1 ∧ w.cell? ⟨b, o + 2, none⟩ = some x2 :=
  ⟨h 0 _ rfl, h 1 _ rfl, h 2 _ rfl⟩

theorem FlW.keep2 {w w' : World} {A : Nat → Prop} {ao : Option Addr} {gs : List Fn1} (h : FlW w A ao gs) (hs : w.heap.size ≤ w'.heap.size) (hk : ∀ b, A b → b < w.heap.size → w'.heap[b]? = w.heap[b]?) : FlW w' A ao gs := by
  rcases h with h | ⟨g, cs, e, ha, hl, hr, hf⟩
  · exact .inl h
  · refine .inr ⟨g, cs, e, ha, by omega, fun j v hv => ?_, hf.keep hs hk⟩
    rw [show w'.cell? ⟨g, 0 + j, none⟩ = w.cell? ⟨g, 0 + j, none⟩ from World.cell?_of_block (w := w) (hk g ha hl)]
    exact hr j v hv
theorem FnW.up {w w' : World} {A : Nat → Prop} {g : Fn1} {vs : List Value} (h : FnW w A g vs) (hb : Below w.heap.size w w') : FnW w' A g vs := h.keep hb.size fun b _ hl => hb.block b hl
theorem FlW.up {w w' : World} {A : Nat → Prop} {ao : Option Addr} {gs : List Fn1} (h : FlW w A ao gs) (hb : Below w.heap.size w w') : FlW w' A ao gs := h.keep2 hb.size fun b _ hl => hb.block b hl
theorem PlW.up {w w' : World} {A : Nat → Prop} {ao : Option Addr} {ps : List Pm} (h : PlW w A ao ps) (hb : Below w.heap.size w w') : PlW w' A ao ps := h.keep hb.size fun b _ hl => hb.block b hl

set_option maxHeartbeats 8000000 in
theorem sameFunc_any (pl : Bool) (x y : Fn1) (hsz : szE x.body ≤ 1073741824) (hpm : x.pms.length ≤ 9223372036854775807) (hr : FnR (pq pl) x y) (w : World) (A A' : Nat → Prop) (us vs : List Value) (hx : FnW w A x us) (hy : FnW w A' y vs) :
    Calls Tryz.prog 47 #[.agg us.toArray, .agg vs.toArray, .bool pl] w fun e w' => e = .returned (.bool true) ∧ Below w.heap.size w w' := by
  obtain ⟨ao, c, es, rfl, hp1, he1⟩ := hx
  obtain ⟨ao', c', es', rfl, hp2, he2⟩ := hy
  obtain ⟨name, ps, ty, body, i⟩ := x
  obtain ⟨name', ps', ty', body', j⟩ := y
  obtain ⟨r1, r2, r3, r4, r5⟩ := hr
  dsimp only at r1 r2 r3 r4 r5 hp1 hp2 he1 he2 hsz hpm
  subst r1 r3
  have hcall : ∀ W, Below w.heap.size w W → Calls Tryz.prog 63 #[.agg es.toArray, .agg es'.toArray, .bool pl] W fun e w' => e = .returned (.bool true) ∧ Below W.heap.size W w' :=
    fun W hW => sameExpr_any pl _ body body' (Nat.le_refl _) hsz r4 W A A' es es' (he1.up hW) (he2.up hW)
  obtain ⟨x0, x1, x2, x3, x4, x5, x6, rfl⟩ := list7 he1.len
  obtain ⟨y0, y1, y2, y3, y4, y5, y6, rfl⟩ := list7 he2.len
  have hle := r2.length
  rw [← hle]
  have HLE : Hid (ps.length = ps'.length) := hle
  have HR : Hid (LiR (PmR (pq pl)) ps ps') := r2
  clear hle he1 he2 r4 r2
  simp only [List.cons_append, List.nil_append]
  have hb0 := below_two w (.cells #[.string (bs name), .slice ao ps.length c, .int .i64 ty, x0, x1, x2, x3, x4, x5, x6, .int .i64 i] 45) (.cells #[.string (bs name), .slice ao' ps.length c', .int .i64 ty, y0, y1, y2, y3, y4, y5, y6, .int .i64 j] 45)
  have hL1 := (Bk.new w 45 #[.string (bs name), .slice ao ps.length c, .int .i64 ty, x0, x1, x2, x3, x4, x5, x6, .int .i64 i]).up (below_alloc _ (.cells #[.string (bs name), .slice ao' ps.length c', .int .i64 ty, y0, y1, y2, y3, y4, y5, y6, .int .i64 j] 45))
  have hL2 := Bk.newAt (w := w.alloc (.cells #[.string (bs name), .slice ao ps.length c, .int .i64 ty, x0, x1, x2, x3, x4, x5, x6, .int .i64 i] 45)) (n := w.heap.size + 1) 45 #[.string (bs name), .slice ao' ps.length c', .int .i64 ty, y0, y1, y2, y3, y4, y5, y6, .int .i64 j] (by simp)
  go_enter Tryz.func47, Tryz.ntmps47
  go_upto_region 1 with fail
  obtain ⟨W2, hW2⟩ : ∃ W2, W2 = (w.alloc (.cells #[.string (bs name), .slice ao ps.length c, .int .i64 ty, x0, x1, x2, x3, x4, x5, x6, .int .i64 i] 45)).alloc (.cells #[.string (bs name), .slice ao' ps.length c', .int .i64 ty, y0, y1, y2, y3, y4, y5, y6, .int .i64 j] 45) := ⟨_, rfl⟩
  rw [← hW2] at hb0 hL1 hL2 ⊢
  clear hW2
  have HP : Hid (pq pl i j) := r5
  clear r5
  obtain ⟨a0, a1, a2, -, -, -, -, -, -, -, a10⟩ := Bk.eleven (show Bk W2 w.heap.size 45 [_, _, _, _, _, _, _, _, _, _, _] from hL1)
  obtain ⟨b0, b1, b2, -, -, -, -, -, -, -, b10⟩ := Bk.eleven (show Bk W2 (w.heap.size + 1) 45 [_, _, _, _, _, _, _, _, _, _, _] from hL2)
  cases pl with
  | true =>
    have hij : i = j := (show pq true i j from HP) rfl
    subst hij
    clear HP
    go_wp2
    clear a0 a1 a2 a10 b0 b1 b2 b10
    go_loopw [7] (fun v wr => ∃ k : Nat, k ≤ ps.length ∧ v = .int .i64 k ∧ Below W2.heap.size W2 wr) (fun v _ => ps.length - (intOf v).toNat)
    case atStart => exact ⟨0, Nat.zero_le _, rfl, Below.refl _ _⟩
    case round =>
      obtain ⟨k, hkn, rfl, hB⟩ := hrel
      have hM1 := hL1.up hB
      have hM2 := hL2.up hB
      obtain ⟨-, a1, -⟩ := Bk.eleven (show Bk wr w.heap.size 45 [_, _, _, _, _, _, _, _, _, _, _] from hM1)
      obtain ⟨-, b1, -⟩ := Bk.eleven (show Bk wr (w.heap.size + 1) 45 [_, _, _, _, _, _, _, _, _, _, _] from hM2)
      by_cases hlt : k < ps.length
      · have hlt' : k < ps'.length := by rw [← show ps.length = ps'.length from HLE]; exact hlt
        obtain ⟨g, rfl, hu⟩ := PlW.at ((hp1.up hb0).up hB) k hlt
        obtain ⟨g', rfl, hv⟩ := PlW.at ((hp2.up hb0).up hB) k hlt'
        obtain ⟨q1, q2, q3⟩ := (show LiR (PmR (pq true)) ps ps' from HR).at pd pd k hlt
        obtain ⟨p, hp⟩ : ∃ p, p = ps.getD k pd := ⟨_, rfl⟩
        obtain ⟨p', hp'⟩ : ∃ p, p = ps'.getD k pd := ⟨_, rfl⟩
        rw [← hp] at hu q1 q2 q3
        rw [← hp'] at hv q1 q2 q3
        clear hp hp'
        obtain ⟨n1, t1, s1⟩ := p
        obtain ⟨n2, t2, s2⟩ := p'
        dsimp only at q1 q2 q3
        subst q1 q2
        obtain rfl : s1 = s2 := q3 rfl
        obtain ⟨c0, c1, c2⟩ := range3 (show wr.rangeAt g (k * 3) [_, _, _] from hu)
        have hx3 := below_alloc wr (.cells #[.string (bs n1), .int .i64 t1, .int .i64 s1] 55)
        obtain ⟨d0, d1, d2⟩ := range3 (show (wr.alloc (.cells #[.string (bs n1), .int .i64 t1, .int .i64 s1] 55)).rangeAt g' (k * 3) [.string (bs n1), .int .i64 t1, .int .i64 s1] from range_keep hv (by simp) fun hl => hx3.block _ hl)
        obtain ⟨-, b1, -⟩ := Bk.eleven (show Bk (wr.alloc (.cells #[.string (bs n1), .int .i64 t1, .int .i64 s1] 55)) (w.heap.size + 1) 45 [_, _, _, _, _, _, _, _, _, _, _] from hM2.up hx3)
        obtain ⟨e0, e1, e2⟩ := Bk.three (show Bk ((wr.alloc (.cells #[.string (bs n1), .int .i64 t1, .int .i64 s1] 55)).alloc (.cells #[.string (bs n1), .int .i64 t1, .int .i64 s1] 55)) wr.heap.size 55 [_, _, _] from (Bk.new wr 55 #[.string (bs n1), .int .i64 t1, .int .i64 s1]).up (below_alloc _ _))
        obtain ⟨f0, f1, f2⟩ := Bk.three (show Bk ((wr.alloc (.cells #[.string (bs n1), .int .i64 t1, .int .i64 s1] 55)).alloc (.cells #[.string (bs n1), .int .i64 t1, .int .i64 s1] 55)) (wr.heap.size + 1) 55 [_, _, _] from Bk.newAt 55 #[.string (bs n1), .int .i64 t1, .int .i64 s1] (by simp))
        have hB4 := Below.thn hB (below_two wr (.cells #[.string (bs n1), .int .i64 t1, .int .i64 s1] 55) (.cells #[.string (bs n1), .int .i64 t1, .int .i64 s1] 55))
        clear hu hv hcall hM1 hM2 hx3
        go_wp2
        go_roundw
        case rel => exact ⟨k + 1, by omega, by go_num, hB4⟩
        case measure => simp [intOf]; omega
      · have hke : k = ps.length := by omega
        subst hke
        have hcl := hcall wr (Below.thn hb0 hB)
        have hB3 := Below.thn hb0 hB
        go_wp2_with (first
          | refine wpList_loadN rfl 43 (.tmp 80) rfl w.heap.size 3 rfl [x0, x1, x2, x3, x4, x5, x6] _ (hM1.range 3 7) Tryz.underE Tryz.infoE ?_
          | refine wpList_loadN rfl 43 (.tmp 82) rfl (w.heap.size + 1) 3 rfl [y0, y1, y2, y3, y4, y5, y6] _ (hM2.range 3 7) Tryz.underE Tryz.infoE ?_)
        refine hcl.mono ?_
        rintro e w7 ⟨rfl, hb7⟩
        have q7 := Below.thn hB3 hb7
        go_wp2
        go_ret
        exact ⟨rfl, q7⟩
  | false =>
    clear HP
    go_wp2
    clear a0 a1 a2 a10 b0 b1 b2 b10
    go_loopw [7] (fun v wr => ∃ k : Nat, k ≤ ps.length ∧ v = .int .i64 k ∧ Below W2.heap.size W2 wr) (fun v _ => ps.length - (intOf v).toNat)
    case atStart => exact ⟨0, Nat.zero_le _, rfl, Below.refl _ _⟩
    case round =>
      obtain ⟨k, hkn, rfl, hB⟩ := hrel
      have hM1 := hL1.up hB
      have hM2 := hL2.up hB
      obtain ⟨-, a1, -⟩ := Bk.eleven (show Bk wr w.heap.size 45 [_, _, _, _, _, _, _, _, _, _, _] from hM1)
      obtain ⟨-, b1, -⟩ := Bk.eleven (show Bk wr (w.heap.size + 1) 45 [_, _, _, _, _, _, _, _, _, _, _] from hM2)
      by_cases hlt : k < ps.length
      · have hlt' : k < ps'.length := by rw [← show ps.length = ps'.length from HLE]; exact hlt
        obtain ⟨g, rfl, hu⟩ := PlW.at ((hp1.up hb0).up hB) k hlt
        obtain ⟨g', rfl, hv⟩ := PlW.at ((hp2.up hb0).up hB) k hlt'
        obtain ⟨q1, q2, q3⟩ := (show LiR (PmR (pq false)) ps ps' from HR).at pd pd k hlt
        obtain ⟨p, hp⟩ : ∃ p, p = ps.getD k pd := ⟨_, rfl⟩
        obtain ⟨p', hp'⟩ : ∃ p, p = ps'.getD k pd := ⟨_, rfl⟩
        rw [← hp] at hu q1 q2 q3
        rw [← hp'] at hv q1 q2 q3
        clear hp hp'
        obtain ⟨n1, t1, s1⟩ := p
        obtain ⟨n2, t2, s2⟩ := p'
        dsimp only at q1 q2 q3
        subst q1 q2
        clear q3
        obtain ⟨c0, c1, c2⟩ := range3 (show wr.rangeAt g (k * 3) [_, _, _] from hu)
        have hx3 := below_alloc wr (.cells #[.string (bs n1), .int .i64 t1, .int .i64 s1] 55)
        obtain ⟨d0, d1, d2⟩ := range3 (show (wr.alloc (.cells #[.string (bs n1), .int .i64 t1, .int .i64 s1] 55)).rangeAt g' (k * 3) [.string (bs n1), .int .i64 t1, .int .i64 s2] from range_keep hv (by simp) fun hl => hx3.block _ hl)
        obtain ⟨-, b1, -⟩ := Bk.eleven (show Bk (wr.alloc (.cells #[.string (bs n1), .int .i64 t1, .int .i64 s1] 55)) (w.heap.size + 1) 45 [_, _, _, _, _, _, _, _, _, _, _] from hM2.up hx3)
        obtain ⟨e0, e1, e2⟩ := Bk.three (show Bk ((wr.alloc (.cells #[.string (bs n1), .int .i64 t1, .int .i64 s1] 55)).alloc (.cells #[.string (bs n1), .int .i64 t1, .int .i64 s2] 55)) wr.heap.size 55 [_, _, _] from (Bk.new wr 55 #[.string (bs n1), .int .i64 t1, .int .i64 s1]).up (below_alloc _ _))
        obtain ⟨f0, f1, f2⟩ := Bk.three (show Bk ((wr.alloc (.cells #[.string (bs n1), .int .i64 t1, .int .i64 s1] 55)).alloc (.cells #[.string (bs n1), .int .i64 t1, .int .i64 s2] 55)) (wr.heap.size + 1) 55 [_, _, _] from Bk.newAt 55 #[.string (bs n1), .int .i64 t1, .int .i64 s2] (by simp))
        have hB4 := Below.thn hB (below_two wr (.cells #[.string (bs n1), .int .i64 t1, .int .i64 s1] 55) (.cells #[.string (bs n1), .int .i64 t1, .int .i64 s2] 55))
        clear hu hv hcall hM1 hM2 hx3
        go_wp2
        go_roundw
        case rel => exact ⟨k + 1, by omega, by go_num, hB4⟩
        case measure => simp [intOf]; omega
      · have hke : k = ps.length := by omega
        subst hke
        have hcl := hcall wr (Below.thn hb0 hB)
        have hB3 := Below.thn hb0 hB
        go_wp2_with (first
          | refine wpList_loadN rfl 43 (.tmp 80) rfl w.heap.size 3 rfl [x0, x1, x2, x3, x4, x5, x6] _ (hM1.range 3 7) Tryz.underE Tryz.infoE ?_
          | refine wpList_loadN rfl 43 (.tmp 82) rfl (w.heap.size + 1) 3 rfl [y0, y1, y2, y3, y4, y5, y6] _ (hM2.range 3 7) Tryz.underE Tryz.infoE ?_)
        refine hcl.mono ?_
        rintro e w7 ⟨rfl, hb7⟩
        have q7 := Below.thn hB3 hb7
        go_wp2
        go_ret
        exact ⟨rfl, q7⟩

set_option maxHeartbeats 8000000 in
theorem same4_any (pl : Bool) (gs gs' : List Fn1) (hsz : ∀ g ∈ gs, szE g.body ≤ 1073741824) (hpm : ∀ g ∈ gs, g.pms.length ≤ 9223372036854775807) (hgs : gs.length ≤ 9223372036854775807) (hr : LiR (FnR (pq pl)) gs gs') (w : World) (A A' : Nat → Prop) (ao ao' : Option Addr) (c c' : Nat) (hx : FlW w A ao gs) (hy : FlW w A' ao' gs') :
    Calls Tryz.prog 24 #[.agg #[.slice ao gs.length c], .agg #[.slice ao' gs'.length c'], .bool pl] w fun e w' => e = .returned (.bool true) ∧ Below w.heap.size w w' := by
  have hle := hr.length
  rw [← hle]
  have HLE : Hid (gs.length = gs'.length) := hle
  clear hle
  have hb0 := below_two w (.cells #[.slice ao gs.length c] 26) (.cells #[.slice ao' gs.length c'] 26)
  have hL1 := (Bk.new w 26 #[.slice ao gs.length c]).up (below_alloc _ (.cells #[.slice ao' gs.length c'] 26))
  have hL2 := Bk.newAt (w := w.alloc (.cells #[.slice ao gs.length c] 26)) (n := w.heap.size + 1) 26 #[.slice ao' gs.length c'] (by simp)
  have hl1 := hx.up hb0
  have hl2 := hy.up hb0
  go_enter Tryz.func24, Tryz.ntmps24
  go_upto_region 1 with fail
  obtain ⟨W2, hW2⟩ : ∃ W2, W2 = (w.alloc (.cells #[.slice ao gs.length c] 26)).alloc (.cells #[.slice ao' gs.length c'] 26) := ⟨_, rfl⟩
  rw [← hW2] at hb0 hL1 hL2 hl1 hl2 ⊢
  clear hW2
  have a0 : W2.cell? ⟨w.heap.size, 0, none⟩ = some (.slice ao gs.length c) := hL1.cell 0
  have b0 : W2.cell? ⟨w.heap.size + 1, 0, none⟩ = some (.slice ao' gs.length c') := hL2.cell 0
  go_wp2
  go_loopw [7] (fun v wr => ∃ k : Nat, k ≤ gs.length ∧ v = .int .i64 k ∧ Below W2.heap.size W2 wr) (fun v _ => gs.length - (intOf v).toNat)
  case atStart => exact ⟨0, Nat.zero_le _, rfl, Below.refl _ _⟩
  case round =>
    obtain ⟨k, hkn, rfl, hB⟩ := hrel
    have a0 : wr.cell? ⟨w.heap.size, 0, none⟩ = some (.slice ao gs.length c) := (hL1.up hB).cell 0
    have b0 : wr.cell? ⟨w.heap.size + 1, 0, none⟩ = some (.slice ao' gs.length c') := (hL2.up hB).cell 0
    by_cases hlt : k < gs.length
    · have hlt' : k < gs'.length := by rw [← show gs.length = gs'.length from HLE]; exact hlt
      obtain ⟨b, us, rfl, _, hu, hxu⟩ := (hl1.up hB).at k hlt
      obtain ⟨b', vs, rfl, _, hv, hxv⟩ := (hl2.up hB).at k hlt'
      have hm : gs.getD k fd ∈ gs := by rw [List.getD_eq_getElem?_getD, List.getElem?_eq_getElem hlt]; exact List.getElem_mem hlt
      have hcall : ∀ W, Below wr.heap.size wr W → Calls Tryz.prog 47 #[.agg us.toArray, .agg vs.toArray, .bool pl] W fun e w' => e = .returned (.bool true) ∧ Below W.heap.size W w' :=
        fun W hW => sameFunc_any pl _ _ (hsz _ hm) (hpm _ hm) (hr.at fd fd k hlt) W A A' us vs (hxu.up hW) (hxv.up hW)
      obtain ⟨u0, u1, u2, u3, u4, u5, u6, u7, u8, u9, u10, rfl⟩ := list11 hxu.len
      obtain ⟨v0, v1, v2, v3, v4, v5, v6, v7, v8, v9, v10, rfl⟩ := list11 hxv.len
      obtain ⟨c0, c1, c2, c3, c4, c5, c6, c7, c8, c9, c10⟩ := range11 hu
      obtain ⟨d0, d1, d2, d3, d4, d5, d6, d7, d8, d9, d10⟩ := range11 hv
      clear hu hv hxu hxv
      go_wp2
      go_region_with (go_at_call 47; refine (hcall _ (Below.refl _ wr).drew).mono ?_; rintro e w7 ⟨rfl, hb7⟩; have q7 := Below.thn hB (Below.thn (Below.refl _ wr).drew hb7))
      all_goals
        go_wp2
        go_roundw
        case rel => exact ⟨k + 1, by omega, by go_num, q7⟩
        case measure => simp [intOf]; omega
    · have hke : k = gs.length := by omega
      subst hke
      have hB3 := Below.thn hb0 hB
      go_wp2
      go_ret
      exact ⟨rfl, hB3⟩
end Go.Proofs.YtmfejllhlbnigaaGreatDoor
