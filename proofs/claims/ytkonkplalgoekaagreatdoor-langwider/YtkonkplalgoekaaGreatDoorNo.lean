/-
  The walk of named.
-/
import Derived.Test.YtkonkplalgoekaaGreatDoorNg
namespace Go.Proofs.YtkonkplalgoekaaGreatDoor
open Go.RowKit
set_option maxRecDepth 100000

theorem ElW.oth2 {w w' : World} {A : Nat → Prop} {g : Nat} {ao : Option Addr} {xs : List Ex} (h : ElW w A ao xs) (hU : Oth g w w') (hA : ∀ b, A b → b ≠ g) : ElW w' A ao xs := h.keep fun b hb _ => hU.block b (hA b hb)

set_option maxHeartbeats 4000000 in
theorem named_step (I : Rdi) (_hE : Ends I.M I.n) (f : Nat) (ih : AllN I f) (w : World) (R k d : Nat) (h : Rdr I w R k d) (hkn : k + 1 < I.n) (hne : namedP I.M (lmOf I) (f + 1) d k ≠ .out) :
    Calls Tryz.prog 143 #[.pointer (some ⟨R, 0, none⟩)] w fun e w' => Ans I R d w (exV w.heap.size) (namedP I.M (lmOf I) (f + 1) d k) e w' := by
  have hB0 := Bk.new w 50 ez
  have h1 := h.up (below_alloc w (.cells ez 50))
  have hlt := h.lt
  have hcx := store_cx
  obtain ⟨r, hr⟩ : ∃ r, r = namedP I.M (lmOf I) (f + 1) d k := ⟨_, rfl⟩
  rw [← hr] at hne ⊢
  rw [namedP] at hr
  have HR : Hid (r = _) := hr
  clear hr
  go_enter Tryz.func143, Tryz.ntmps143
  go_wp2_with fail
  refine (take_any I _ R k d h1 hkn).mono ?_
  rintro e w2 ⟨rfl, h2, hV2⟩
  have hU2 := (bel_but (below_alloc w (.cells ez 50)) R).trans hV2
  have hB2 := hB0.but hV2 (by omega)
  have hlr := hB2.lt
  have hL := Bk.new w2 42 mz
  go_wp2_with (refine wpList_storeN rfl 42 (.tmp 3) (.tmp 6) rfl w2.heap.size 0 (mkC (I.M k)) rfl rfl hL (Nat.le_refl 4) Tryz.infoM (mkC_one _) ?_; intro w3 hM3 ho3; obtain ⟨_, c1, _, c3⟩ := Bk.four (show Bk w3 w2.heap.size _ [.int .i64 (I.M k).kind, .string (bs (I.M k).text), .complex .f64 (fl (I.M k).p) (fl (I.M k).q), .int .i64 (I.M k).at_] from hM3))
  have hb3 := (below_alloc w2 (.cells mz 42)).trans (ho3.below (Nat.le_refl _))
  have hb4 := hb3.alloc hb3.size (.cells #[.int .i64 6, .string (bs (I.M k).text), .string ⟨#[]⟩, .int .i64 0, .complex .f64 0 0, .slice none 0 0, .int .i64 (I.M k).at_] 50)
  have hlm : w2.heap.size < w3.heap.size := by have := ho3.size; simp at this; omega
  have hBe := Bk.new w3 50 #[.int .i64 6, .string (bs (I.M k).text), .string ⟨#[]⟩, .int .i64 0, .complex .f64 0 0, .slice none 0 0, .int .i64 (I.M k).at_]
  have h4 := h2.up hb4
  have hU4 := hU2.then hb4
  have hB4 := hB2.up hb4
  clear hL hM3 ho3 c1 c3
  cases t1 : tk I.M [40] (k + 1) with
  | true =>
    have HR : Hid (r = (argsP I.M (lmOf I) f d (k + 1 + 1)).bind fun l k1 => .ok (.mk 7 (I.M k).text [] 0 0 0 l (I.M k).at_) k1) := by
      show r = _
      rw [show r = _ from HR, if_pos t1]
    have HT : Hid (tk I.M [40] (k + 1) = true) := t1
    have hst := stands_any I [40] _ R (k + 1) d h4
    rw [t1] at hst
    clear t1
    refine hst.mono ?_
    rintro e w5 ⟨rfl, hb5⟩
    have h5 := h4.up hb5
    have hU5 := hU4.then hb5
    have hB5 := hB4.up hb5
    have hBe5 := hBe.up hb5
    have hl5 := hBe5.lt
    clear hst
    go_wp2_with fail
    have hn6 := bind_ne HR hne
    refine (ih.args w5 R (k + 1) d h5 HT hn6).mono ?_
    rintro e w6 ⟨hV6, ha⟩
    cases hq : argsP I.M (lmOf I) f d (k + 1 + 1) with
    | out => exact absurd hq hn6
    | bad y j =>
      rw [hq] at ha
      rw [show e = _ from ha]
      have HR := bind_bad HR hq
      clear ha hq
      unfold gaveUp
      go_wp2
      exact ⟨rfl, ans_bad HR (hU5.trans hV6) rfl⟩
    | ok l k1 =>
      rw [hq] at ha
      obtain ⟨⟨v, rfl, ao, c, rfl, hel⟩, h6⟩ := ha
      have HR := bind_ok HR hq
      clear hq
      have hU6 := hU5.trans hV6
      have hB6 := hB5.but hV6 (by omega)
      have hBe6 : Bk w6 w3.heap.size 50 [.int .i64 6, .string (bs (I.M k).text), .string ⟨#[]⟩, .int .i64 0, .complex .f64 0 0, .slice none 0 0, .int .i64 (I.M k).at_] := hBe5.but hV6 (by omega)
      obtain ⟨p0, _, _, _, _, p5, _⟩ := hBe6.seven
      have z0 := hBe6.frz 0
      have z5 := hBe6.frz 5
      have O2 := ((Oth.refl w3.heap.size w6).set 0 (.int .i64 7)).set 5 (.slice ao l.length c)
      have hBe7 := (hBe6.set 0 (.int .i64 7)).set 5 (.slice ao l.length c)
      have hB7 := hB6.oth O2 (by omega)
      have h7 := h6.oth O2 (by omega) (by omega)
      have hU7 := O2.but hU6 (by omega)
      have hel7 := hel.oth2 O2 (fun b hb => by omega)
      go_wp2_with (first
        | refine wpList_loadN rfl 50 (.tmp 4) rfl w3.heap.size 0 rfl [.int .i64 7, .string (bs (I.M k).text), .string ⟨#[]⟩, .int .i64 0, .complex .f64 0 0, .slice ao l.length c, .int .i64 (I.M k).at_] _ (hBe7.range 0 7) Tryz.underE Tryz.infoE ?_
        | (refine wpList_storeN rfl 50 (.tmp 2) (.tmp 18) rfl w.heap.size 0 [.int .i64 7, .string (bs (I.M k).text), .string ⟨#[]⟩, .int .i64 0, .complex .f64 0 0, .slice ao l.length c, .int .i64 (I.M k).at_] rfl rfl hB7 (Nat.le_refl 7) Tryz.infoE (one7 _ _ _ _ _ _ _ _ _ _) ?_; intro wz hBz hoz))
      have hrz := h7.oth hoz (by omega) (by omega)
      have hUz := hoz.but hU7 (Nat.le_refl _)
      have helz := (hel7.oth2 hoz fun b hb => by omega).imp (A' := fun b => w.heap.size ≤ b) fun b hb _ => by omega
      obtain ⟨q0, q1, q2, q3, q4, q5, q6⟩ := Bk.seven (show Bk wz w.heap.size _ [_, _, _, _, _, _, _] from hBz)
      refine bodyPost_ret (v := .agg #[.int .i64 7, .string (bs (I.M k).text), .string ⟨#[]⟩, .int .i64 0, .complex .f64 0 0, .slice ao l.length c, .int .i64 (I.M k).at_]) (by simp [results, Tryz.results143, go_sem, q0, q1, q2, q3, q4, q5, q6]) rfl (ans_ok HR hUz ⟨_, rfl, exv_mk helz rfl⟩ hrz)
  | false =>
    have HR : Hid (r = .ok (.mk 6 (I.M k).text [] 0 0 0 [] (I.M k).at_) (k + 1)) := by
      show r = _
      rw [show r = _ from HR, if_neg (by rw [t1]; simp)]
    have hst := stands_any I [40] _ R (k + 1) d h4
    rw [t1] at hst
    clear t1
    refine hst.mono ?_
    rintro e w5 ⟨rfl, hb5⟩
    have h5 := h4.up hb5
    have hU5 := hU4.then hb5
    have hB5 := hB4.up hb5
    have hBe5 := hBe.up hb5
    have hl5 := hBe5.lt
    clear hst
    go_wp2_with (first
      | refine wpList_loadN rfl 50 (.tmp 4) rfl w3.heap.size 0 rfl [.int .i64 6, .string (bs (I.M k).text), .string ⟨#[]⟩, .int .i64 0, .complex .f64 0 0, .slice none 0 0, .int .i64 (I.M k).at_] _ (hBe5.range 0 7) Tryz.underE Tryz.infoE ?_
      | (refine wpList_storeN rfl 50 (.tmp 2) (.tmp 18) rfl w.heap.size 0 [.int .i64 6, .string (bs (I.M k).text), .string ⟨#[]⟩, .int .i64 0, .complex .f64 0 0, .slice none 0 0, .int .i64 (I.M k).at_] rfl rfl hB5 (Nat.le_refl 7) Tryz.infoE (one7 _ _ _ _ _ _ _ _ _ _) ?_; intro wz hBz hoz))
    have hrz := h5.oth hoz (by omega) (by omega)
    have hUz := hoz.but hU5 (Nat.le_refl _)
    obtain ⟨q0, q1, q2, q3, q4, q5, q6⟩ := Bk.seven (show Bk wz w.heap.size _ [_, _, _, _, _, _, _] from hBz)
    refine bodyPost_ret (v := .agg #[.int .i64 6, .string (bs (I.M k).text), .string ⟨#[]⟩, .int .i64 0, .complex .f64 0 0, .slice none 0 0, .int .i64 (I.M k).at_]) (by simp [results, Tryz.results143, go_sem, q0, q1, q2, q3, q4, q5, q6]) rfl (ans_ok HR hUz ⟨_, rfl, exv_mk (xs := []) .nil rfl⟩ hrz)
end Go.Proofs.YtkonkplalgoekaaGreatDoor
