/-
  The walk of param.
-/
import Derived.Test.YtkonkplalgoekaaGreatDoorNh
import Derived.Deep.RegionWith
namespace Go.Proofs.YtkonkplalgoekaaGreatDoor
open Go.RowKit
set_option maxRecDepth 100000

def pmC (p : Pm) : List Value := [.string (bs p.name), .int .i64 p.ty, .int .i64 p.pos]
def pmV (_ : World) (p : Pm) (v : Value) : Prop := v = .agg (pmC p).toArray

theorem nameOf_ne (M : Nat → Mk) (n : Nat) (m : Int) (k : Nat) : nameOfP M n m k ≠ .out := by
  unfold nameOfP nameP
  repeat' split
  all_goals simp
theorem type_ne2 (M : Nat → Mk) (k : Nat) : typeP M k ≠ .out := by
  unfold typeP
  repeat' split
  all_goals simp
theorem Bk.three {w : World} {b : Nat} {t : TypeId} {x0 x1 x2 : Value} (h : Bk w b t [x0, x1, x2]) : w.cell? ⟨b, 0, none⟩ = some x0 ∧ w.cell? ⟨b, 1, none⟩ = some x1 ∧ w.cell? ⟨b, 2, none⟩ = some x2 := ⟨h.cell 0, h.cell 1, h.cell 2⟩

set_option maxHeartbeats 4000000 in
theorem param_any (I : Rdi) (hE : Ends I.M I.n) (num : Nat) (w : World) (R k d : Nat) (h : Rdr I w R k d) :
    Calls Tryz.prog 63 #[.pointer (some ⟨R, 0, none⟩), .int .i64 ((num + 1 : Nat) : Int)] w fun e w' => Ans I R d w pmV (paramP I.M (lmOf I) num k) e w' := by
  obtain ⟨r, hr⟩ : ∃ r, r = paramP I.M (lmOf I) num k := ⟨_, rfl⟩
  rw [← hr]
  unfold paramP at hr
  have HR : Hid (r = (nameOfP I.M num I.la k).bind fun x k1 => (typeP I.M k1).bind fun t k2 => .ok ⟨x.text, t, x.at_⟩ k2) := hr
  clear hr
  have hB0 := Bk.new w 83 #[.string ⟨#[]⟩, .int .i64 0, .int .i64 0]
  have hlt := h.lt
  have hb0 := below_alloc w (.cells #[.string ⟨#[]⟩, .int .i64 0, .int .i64 0] 83)
  have h1 := h.up hb0
  have hU1 := bel_but hb0 R
  have c4 : (w.alloc (.cells #[.string ⟨#[]⟩, .int .i64 0, .int .i64 0] 83)).cell? ⟨R, 4, none⟩ = some (.int .i64 I.la) := h1.blk.cell 4
  go_enter Tryz.func63, Tryz.ntmps63
  go_wp2_with fail
  have hno := nameOf_any I hE num I.la _ R k d h1
  refine hno.mono ?_
  rintro e w2 ⟨hV2, ha⟩
  cases hq2 : nameOfP I.M num I.la k with
  | out => exact absurd hq2 (nameOf_ne _ _ _ _)
  | bad y j =>
    rw [hq2] at ha
    rw [show e = _ from ha]
    have HR := bind_bad HR hq2
    clear ha hq2 hno
    unfold gaveUp
    go_wp2
    exact ⟨rfl, ans_bad HR (hU1.trans hV2) rfl⟩
  | ok m k1 =>
    rw [hq2] at ha
    obtain ⟨⟨v, rfl, hv⟩, h2⟩ := ha
    obtain rfl : v = mkV m := hv
    have HR := bind_ok HR hq2
    clear hq2 hno
    unfold mkV
    have hU2 := hU1.trans hV2
    have hB2 := hB0.but hV2 (by omega)
    have hl2 := hB2.lt
    have hL := Bk.new w2 42 mz
    go_wp2_with (refine wpList_storeN rfl 42 (.tmp 5) (.tmp 13) rfl w2.heap.size 0 (mkC m) rfl rfl hL (Nat.le_refl 4) Tryz.infoM (mkC_one _) ?_; intro w3 hM3 ho3)
    have hb3 := (below_alloc w2 (.cells mz 42)).trans (ho3.below (Nat.le_refl _))
    have h3 := h2.up hb3
    have hU3 := hU2.then hb3
    have hB3 := hB2.up hb3
    have hL3 : Bk w3 w2.heap.size 42 [.int .i64 m.kind, .string (bs m.text), .complex .f64 (fl m.p) (fl m.q), .int .i64 m.at_] := hM3
    have s1 := hL3.four.2.1
    have s3 := hL3.four.2.2.2
    have hl3 := hL3.lt
    obtain ⟨x0, x1, x2⟩ := hB3.three
    have y0 := hB3.frz 0
    have y1 := hB3.frz 1
    have y2 := hB3.frz 2
    have hty := type_any I hE (World.drew w3) R k1 d (h3.up (Below.refl _ w3).drew)
    clear hM3 hL hB0 hB2 h1 h2 c4 ho3 hb3
    cases hq4 : typeP I.M k1 with
    | out => exact absurd hq4 (type_ne2 _ _)
    | bad y j =>
      have HR := bind_bad HR hq4
      rw [hq4] at hty
      clear hq4
      go_wp2
      go_region_with (go_at_call 42; refine calls_two hty (.int .i64 0) (World.drew w3) (by rintro e w6 ⟨hV6, ha⟩; rw [show e = _ from ha]; unfold gaveUp; exact ⟨rfl, ans_bad HR (hU3.drew.trans hV6) rfl⟩) ?_; intro hF; have HF : Hid False := hF; clear hF; dsimp only)
      all_goals exact (show False from HF).elim
    | ok t k2 =>
      have HR := bind_ok HR hq4
      rw [hq4] at hty
      clear hq4
      go_wp2
      go_region_with (go_at_call 42; refine hty.mono ?_; rintro e w4 ⟨hV4, ⟨v, rfl, hv⟩, h4⟩; obtain rfl : v = .int .i64 t := hv; have hU4 := hU3.drew.trans hV4; have hB4 := Bk.but (w := World.drew w3) hB3 hV4 (by omega); have hL4 := Bk.but (w := World.drew w3) hL3 hV4 (by omega); have u1 := hL4.four.2.1; have u3 := hL4.four.2.2.2; obtain ⟨z0, z1, z2⟩ := hB4.three; have v0 := hB4.frz 0; have v1 := hB4.frz 1; have v2 := hB4.frz 2)
      all_goals
        have hS := Bk.sets [.string (bs m.text), .int .i64 t, .int .i64 m.at_] hB4 0
        have hrz := h4.oth hS.2 (by omega) (by omega)
        have hUz := hS.2.but hU4 (Nat.le_refl _)
        obtain ⟨q0, q1, q2⟩ := Bk.three (show Bk (World.setCells _ _ _ _) w.heap.size _ [_, _, _] from hS.1)
        go_wp2
        refine bodyPost_ret (v := .agg #[.string (bs m.text), .int .i64 t, .int .i64 m.at_]) ?_ rfl (ans_ok HR hUz ?_ hrz)
        · simp only [World.setCells] at q0 q1 q2
          simp [results, Tryz.results63, go_sem, q0, q1, q2]
        · rfl
end Go.Proofs.YtkonkplalgoekaaGreatDoor
