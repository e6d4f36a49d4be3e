/-
  The walk of GaussTexts.
-/
import Derived.Test.YtlenlhlcnidgpaaDoorPn
namespace Go.Proofs.YtlenlhlcnidgpaaDoor
open Go.RowKit
open Go.Lib
set_option maxRecDepth 100000

set_option maxHeartbeats 2000000 in
theorem texts_yes (x y : Int) (r : Bool) (l : List UInt8) (hl : l.length ≤ 281474976710656) (w : World) (hE : Env w) (hv : vc (zb r x) (zb r y) = true) :
    Calls Tryd.prog 3 #[.agg #[.int .i64 x, .int .i64 y, .bool r], .string (bs l)] w fun e w' => e = .returned (.bool true) ∧ Below w.heap.size w w' := by
  have l1 := zb_lt r x
  have l2 := zb_lt r y
  obtain ⟨va, vb⟩ := vc_parts hv
  have b1 := (vp_true va).1
  have b2 := (vp_true vb).1
  have KT : Hid (∀ w, Tab w → Calls Tryd.prog 7 #[.complex .f64 (zb r x) (zb r y)] w fun e w' => e = .returned (.tuple #[.string (bs (txt (nb (zb r x)) (nb (zb r y)))), .int .i64 0]) ∧ Below w.heap.size w w') := by
    intro w ht
    have := text_w _ _ w ht b1 b2
    rwa [← (vp_true va).2, ← (vp_true vb).2] at this
  have e1 : ofX (zb r x) (zb r y) = nb (zb r x) := by unfold ofX; rw [hv]; rfl
  have e2 : ofY (zb r x) (zb r y) = nb (zb r y) := by unfold ofY; rw [hv]; rfl
  clear va vb
  go_enter Tryd.func3, Tryd.ntmps3
  go_wp2_with (go_at_call 4; refine (awake_any _).mono ?_; rintro e w' ⟨rfl, rfl⟩)
  refine (z_any _ _ _ _).mono ?_
  rintro e w' ⟨rfl, n1, rfl⟩
  go_wp2_with fail
  refine (of_any _ _ _ l1 l2).mono ?_
  rintro e w' ⟨rfl, rfl⟩
  go_wp2_with fail
  refine (z_any _ _ _ _).mono ?_
  rintro e w' ⟨rfl, n2, rfl⟩
  go_wp2_with fail
  refine (KT.out _ (env_keep hE (by repeat (first | exact Below.refl _ _ | refine bal ?_ | refine below_drewN ?_ _))).tab).mono ?_
  rintro e w1 ⟨rfl, hb1⟩
  have c0 := keep (b := w.heap.size + 1 + 1 + 1) (o := 0) (v := .int .i64 (nb (zb r x))) hb1 (by go_simp)
  have c1 := keep (b := w.heap.size + 1 + 1 + 1) (o := 1) (v := .int .i64 (nb (zb r y))) hb1 (by go_simp)
  have hB1 := wide (w := w) hb1 (by repeat (first | exact Below.refl _ _ | refine bal ?_ | refine below_drewN ?_ _))
  clear hb1 KT
  go_wp2_with fail
  refine (rtext_w _ _ _ b1 b2).mono ?_
  rintro e w2 ⟨rfl, hb2⟩
  have hB2 := hB1.trans (hb2.mono hB1.size)
  clear hb2 hB1 c0 c1
  go_wp2_with fail
  refine (refparse_w l hl _).mono ?_
  rintro e w3 ⟨rfl, hb3⟩
  have hB3 := hB2.trans (hb3.mono hB2.size)
  clear hb3 hB2
  go_wp2_with fail
  refine (parse_any l hl _ (env_keep hE (bal hB3))).mono ?_
  rintro e w4 ⟨rfl, hb4⟩
  have c0 := keep (b := w3.heap.size) (o := 0) (v := .int .i64 (rdP l)) hb4 (by go_simp)
  have c1 := keep (b := w3.heap.size) (o := 1) (v := .int .i64 (rdQ l)) hb4 (by go_simp)
  have hB4 := wide (w := w) hb4 (bal hB3)
  clear hb4 hB3
  go_wp2_with fail
  refine (told_yes _ _ _ _ _ _ _ rfl rfl rfl).mono ?_
  rintro e w5 ⟨rfl, hb5⟩
  go_wp2_with fail
  go_ret
  exact ⟨rfl, hB4.trans (hb5.mono hB4.size)⟩

set_option maxHeartbeats 2000000 in
theorem texts_no (x y : Int) (r : Bool) (l : List UInt8) (hl : l.length ≤ 281474976710656) (w : World) (hE : Env w) (hv : vc (zb r x) (zb r y) = false) :
    Calls Tryd.prog 3 #[.agg #[.int .i64 x, .int .i64 y, .bool r], .string (bs l)] w fun e w' => e = .returned (.bool true) ∧ Below w.heap.size w w' := by
  have l1 := zb_lt r x
  have l2 := zb_lt r y
  have e1 : ofX (zb r x) (zb r y) = 0 := by unfold ofX; rw [hv]; rfl
  have e2 : ofY (zb r x) (zb r y) = 0 := by unfold ofY; rw [hv]; rfl
  go_enter Tryd.func3, Tryd.ntmps3
  go_wp2_with (go_at_call 4; refine (awake_any _).mono ?_; rintro e w' ⟨rfl, rfl⟩)
  refine (z_any _ _ _ _).mono ?_
  rintro e w' ⟨rfl, n1, rfl⟩
  go_wp2_with fail
  refine (of_any _ _ _ l1 l2).mono ?_
  rintro e w' ⟨rfl, rfl⟩
  go_wp2_with fail
  refine (z_any _ _ _ _).mono ?_
  rintro e w' ⟨rfl, n2, rfl⟩
  go_wp2_with fail
  refine (text_no _ _ _ l1 l2 hv).mono ?_
  rintro e w' ⟨rfl, rfl⟩
  go_wp2_with fail
  refine (refparse_w l hl _).mono ?_
  rintro e w3 ⟨rfl, hb3⟩
  have hB3 := wide (w := w) hb3 (by repeat (first | exact Below.refl _ _ | refine bal ?_ | refine below_drewN ?_ _))
  clear hb3
  go_wp2_with fail
  refine (parse_any l hl _ (env_keep hE (bal hB3))).mono ?_
  rintro e w4 ⟨rfl, hb4⟩
  have c0 := keep (b := w3.heap.size) (o := 0) (v := .int .i64 (rdP l)) hb4 (by go_simp)
  have c1 := keep (b := w3.heap.size) (o := 1) (v := .int .i64 (rdQ l)) hb4 (by go_simp)
  have hB4 := wide (w := w) hb4 (bal hB3)
  clear hb4 hB3
  go_wp2_with fail
  refine (told_yes _ _ _ _ _ _ _ rfl rfl rfl).mono ?_
  rintro e w5 ⟨rfl, hb5⟩
  go_wp2_with fail
  go_ret
  exact ⟨rfl, hB4.trans (hb5.mono hB4.size)⟩

theorem texts_any (x y : Int) (r : Bool) (s : ByteArray) (hs : s.size ≤ 281474976710656) (w : World) (hE : Env w) :
    Calls Tryd.prog 3 #[.agg #[.int .i64 x, .int .i64 y, .bool r], .string s] w fun e w' => e = .returned (.bool true) ∧ Below w.heap.size w w' := by
  have es : s = bs s.data.toList := by apply ByteArray.ext; simp [bs]
  have hl : s.data.toList.length ≤ 281474976710656 := by rw [← Lib.size_eq]; exact hs
  rw [es]
  by_cases hv : vc (zb r x) (zb r y) = true
  · exact texts_yes x y r _ hl w hE hv
  · exact texts_no x y r _ hl w hE (by simpa using hv)
end Go.Proofs.YtlenlhlcnidgpaaDoor
