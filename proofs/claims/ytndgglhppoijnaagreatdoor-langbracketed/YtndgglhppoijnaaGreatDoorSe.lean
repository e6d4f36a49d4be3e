/-
  Definitions anywhere in a row; the walk of Same there; Wide.
-/
import Derived.Test.YtndgglhppoijnaaGreatDoorSc
import Derived.Test.YtndgglhppoijnaaGreatDoorUV
import Derived.Test.YtndgglhppoijnaaGreatDoorUA
namespace Go.Proofs.YtndgglhppoijnaaGreatDoor
open Go.RowKit
set_option maxRecDepth 100000

/-- Definitions read in memory, from any place of a row on. -/
structure Fr (w : World) (A : Nat → Prop) (ao : Option Addr) (gs : List Fn1) : Prop where
  row : ∀ k, k < gs.length → ∃ g off vs, ao = some ⟨g, off, none⟩ ∧ A g ∧ w.rangeAt g (off + k * 11) vs ∧ FnW w A (gs.getD k fd) vs

theorem Fr.up {w w' : World} {A : Nat → Prop} {ao : Option Addr} {gs : List Fn1} (h : Fr w A ao gs) (hb : Below w.heap.size w w') : Fr w' A ao gs := by
  refine ⟨fun k hk => ?_⟩
  obtain ⟨g, off, vs, e, hA, hr, hf⟩ := h.row k hk
  exact ⟨g, off, vs, e, hA, range_keep hr (by intro e; have := hf.len; rw [e] at this; cases this) fun hl => hb.block g hl, hf.up hb⟩
theorem FlW.fr {w : World} {A : Nat → Prop} {ao : Option Addr} {gs : List Fn1} (h : FlW w A ao gs) : Fr w A ao gs := by
  refine ⟨fun k hk => ?_⟩
  obtain ⟨g, vs, e, hA, hr, hf⟩ := h.at k hk
  exact ⟨g, 0, vs, e, hA, by rw [Nat.zero_add]; exact hr, hf⟩
theorem FlW.take {w : World} {A : Nat → Prop} {ao : Option Addr} {gs hs : List Fn1} (h : FlW w A ao (gs ++ hs)) : Fr w A ao gs := by
  refine ⟨fun k hk => ?_⟩
  obtain ⟨g, vs, e, hA, hr, hf⟩ := h.at k (by rw [List.length_append]; omega)
  refine ⟨g, 0, vs, e, hA, by rw [Nat.zero_add]; exact hr, ?_⟩
  rwa [List.getD_eq_getElem?_getD, List.getElem?_append_left hk, ← List.getD_eq_getElem?_getD] at hf
theorem FlW.drop {w : World} {A : Nat → Prop} {g : Nat} {gs hs : List Fn1} (h : FlW w A (some ⟨g, 0, none⟩) (gs ++ hs)) : Fr w A (some ⟨g, gs.length * 11, none⟩) hs := by
  refine ⟨fun k hk => ?_⟩
  obtain ⟨g', vs, e, hA, hr, hf⟩ := h.at (gs.length + k) (by rw [List.length_append]; omega)
  cases e
  refine ⟨g, gs.length * 11, vs, rfl, hA, by rw [← Nat.add_mul]; exact hr, ?_⟩
  rwa [List.getD_eq_getElem?_getD, List.getElem?_append_right (by omega), Nat.add_sub_cancel_left, ← List.getD_eq_getElem?_getD] at hf

set_option maxHeartbeats 8000000 in
theorem same4_fr (pl : Bool) (gs gs' : List Fn1) (hsz : ∀ g ∈ gs, szE g.body ≤ 1073741824) (hpm : ∀ g ∈ gs, g.pms.length ≤ 9223372036854775807) (hgs : gs.length ≤ 9223372036854775807) (hr : LiR (FnR (pq pl)) gs gs') (w : World) (A A' : Nat → Prop) (ao ao' : Option Addr) (c c' : Nat) (hx : Fr w A ao gs) (hy : Fr w A' ao' gs') :
    Calls Tryz.prog 12 #[.agg #[.slice ao gs.length c], .agg #[.slice ao' gs'.length c'], .bool pl] w fun e w' => e = .returned (.bool true) ∧ Below w.heap.size w w' := by
  have hle := hr.length
  rw [← hle]
  have HLE : Hid (gs.length = gs'.length) := hle
  clear hle
  have hb0 := below_two w (.cells #[.slice ao gs.length c] 29) (.cells #[.slice ao' gs.length c'] 29)
  have hL1 := (Bk.new w 29 #[.slice ao gs.length c]).up (below_alloc _ (.cells #[.slice ao' gs.length c'] 29))
  have hL2 := Bk.newAt (w := w.alloc (.cells #[.slice ao gs.length c] 29)) (n := w.heap.size + 1) 29 #[.slice ao' gs.length c'] (by simp)
  have hl1 := hx.up hb0
  have hl2 := hy.up hb0
  go_enter Tryz.func12, Tryz.ntmps12
  go_upto_region 1 with fail
  obtain ⟨W2, hW2⟩ : ∃ W2, W2 = (w.alloc (.cells #[.slice ao gs.length c] 29)).alloc (.cells #[.slice ao' gs.length c'] 29) := ⟨_, rfl⟩
  rw [← hW2] at hb0 hL1 hL2 hl1 hl2 ⊢
  clear hW2
  have a0 : W2.cell? ⟨w.heap.size, 0, none⟩ = some (.slice ao gs.length c) := hL1.cell 0
  have b0 : W2.cell? ⟨w.heap.size + 1, 0, none⟩ = some (.slice ao' gs.length c') := hL2.cell 0
  go_wp2
  go_loopw [7] (fun v wr => ∃ k : Nat, k ≤ gs.length ∧ v = .int .i64 k ∧ Below W2.heap.size W2 wr) (fun v _ => gs.length - (intOf v).toNat)
  case atStart => exact ⟨0, Nat.zero_le _, rfl, Below.refl _ _⟩
  case round =>
    obtain ⟨k, hkn, rfl, hB⟩ := hrel
    have a0 : wr.cell? ⟨w.heap.size, 0, none⟩ = some (.slice ao gs.length c) := (hL1.up hB).cell 0
    have b0 : wr.cell? ⟨w.heap.size + 1, 0, none⟩ = some (.slice ao' gs.length c') := (hL2.up hB).cell 0
    by_cases hlt : k < gs.length
    · have hlt' : k < gs'.length := by rw [← show gs.length = gs'.length from HLE]; exact hlt
      obtain ⟨b, off, us, rfl, _, hu, hxu⟩ := (hl1.up hB).row k hlt
      obtain ⟨b', off', vs, rfl, _, hv, hxv⟩ := (hl2.up hB).row k hlt'
      have hm : gs.getD k fd ∈ gs := by rw [List.getD_eq_getElem?_getD, List.getElem?_eq_getElem hlt]; exact List.getElem_mem hlt
      have hcall : ∀ W, Below wr.heap.size wr W → Calls Tryz.prog 22 #[.agg us.toArray, .agg vs.toArray, .bool pl] W fun e w' => e = .returned (.bool true) ∧ Below W.heap.size W w' :=
        fun W hW => sameFunc_any pl _ _ (hsz _ hm) (hpm _ hm) (hr.at fd fd k hlt) W A A' us vs (hxu.up hW) (hxv.up hW)
      obtain ⟨u0, u1, u2, u3, u4, u5, u6, u7, u8, u9, u10, rfl⟩ := list11 hxu.len
      obtain ⟨v0, v1, v2, v3, v4, v5, v6, v7, v8, v9, v10, rfl⟩ := list11 hxv.len
      obtain ⟨c0, c1, c2, c3, c4, c5, c6, c7, c8, c9, c10⟩ := range11 hu
      obtain ⟨d0, d1, d2, d3, d4, d5, d6, d7, d8, d9, d10⟩ := range11 hv
      clear hu hv hxu hxv
      go_wp2
      go_region_with (go_at_call 22; refine (hcall _ (Below.refl _ wr).drew).mono ?_; rintro e w7 ⟨rfl, hb7⟩; have q7 := Below.thn hB (Below.thn (Below.refl _ wr).drew hb7))
      all_goals
        go_wp2
        go_roundw
        case rel => exact ⟨k + 1, by omega, by go_num, q7⟩
        case measure => simp [intOf]; omega
    · have hke : k = gs.length := by omega
      subst hke
      have hB3 := Below.thn hb0 hB
      go_wp2
      go_ret
      exact ⟨rfl, hB3⟩

set_option maxHeartbeats 1000000 in
theorem wide_any (w : World) : Calls Tryz.prog 7 #[] w fun e w' => e = .returned (.agg #[.int .i64 32768, .int .i64 32768, .int .i64 32768, .int .i64 32768]) ∧ Below w.heap.size w w' := by
  go_enter Tryz.func7, Tryz.ntmps7
  go_wp2
  refine bodyPost_ret (v := .agg #[.int .i64 32768, .int .i64 32768, .int .i64 32768, .int .i64 32768]) (by simp [results, Tryz.results7, go_sem]) rfl ⟨rfl, below_alloc _ _⟩
end Go.Proofs.YtndgglhppoijnaaGreatDoor
