/-
  The walk of ValueTexts.
-/
import Derived.Test.YtbgggbkmnfppoaaGreatDoorVt
namespace Go.Proofs.YtbgggbkmnfppoaaGreatDoor
open Go.RowKit
set_option maxRecDepth 100000

/-- What Text answers is one text and one error. -/
theorem txR_fun (v : Rv) : ∃ s, ∀ e, txR v e → e = .returned (.tuple #[.string (bs s), .int .i64 (if soundV v then 0 else 3)]) := by
  cases hs : soundV v with
  | false => exact ⟨[], fun e h => txR_bad hs h⟩
  | true =>
    obtain ⟨u, hu, e0⟩ := sound_is hs
    exact ⟨txV u, fun e h => by rw [e0] at h; exact txR_of hu h⟩

/-- A law's value in its six cells. -/
def Q6 (w : World) (b : Nat) (ao : Option Addr) (cap : Nat) (q : Qv) : Prop := Bk w b 26 [.int .i64 q.t, .int .i64 q.z.x, .int .i64 q.z.y, .bool q.z.r, .bool q.b, .slice ao q.l.length cap]
def qObj (ao : Option Addr) (cap : Nat) (q : Qv) : Obj := .cells #[.int .i64 q.t, .int .i64 q.z.x, .int .i64 q.z.y, .bool q.z.r, .bool q.b, .slice ao q.l.length cap] 26
theorem Q6.cells {w : World} {b : Nat} {ao : Option Addr} {cap : Nat} {q : Qv} (h : Q6 w b ao cap q) : w.cell? ⟨b, 0, none⟩ = some (.int .i64 q.t) ∧ w.cell? ⟨b, 1, none⟩ = some (.int .i64 q.z.x) ∧ w.cell? ⟨b, 2, none⟩ = some (.int .i64 q.z.y) ∧ w.cell? ⟨b, 3, none⟩ = some (.bool q.z.r) ∧ w.cell? ⟨b, 4, none⟩ = some (.bool q.b) ∧ w.cell? ⟨b, 5, none⟩ = some (.slice ao q.l.length cap) :=
  ⟨Bk.cell h 0, Bk.cell h 1, Bk.cell h 2, Bk.cell h 3, Bk.cell h 4, Bk.cell h 5⟩

/-- A law's value that is handed in. -/
structure Qr (w : World) (ao : Option Addr) (q : Qv) : Prop where
  l : Nr w ao q.l
  n : q.l.length ≤ 5864062014806
theorem Qr.up {w w' : World} {ao : Option Addr} {q : Qv} (h : Qr w ao q) (hb : Below w.heap.size w w') : Qr w' ao q := ⟨h.l.up hb, h.n⟩

set_option maxHeartbeats 4000000 in
theorem valueTexts_any (qa qb : Qv) (a1 a2 : Option Addr) (c1 c2 : Nat) (w : World) (hE : Env w) (h1 : Qr w a1 qa) (h2 : Qr w a2 qb) :
    Calls Tryz.prog 3 #[qV a1 c1 qa, qV a2 c2 qb] w fun e w' => e = .returned (.bool true) ∧ Below w.heap.size w w' := by
  have b0 := Below.thn (below_alloc w (qObj a1 c1 qa)) (below_alloc _ (qObj a2 c2 qb))
  have m1 : Q6 _ w.heap.size a1 c1 qa := (Bk.new w 26 #[.int .i64 qa.t, .int .i64 qa.z.x, .int .i64 qa.z.y, .bool qa.z.r, .bool qa.b, .slice a1 qa.l.length c1]).up (below_alloc _ (qObj a2 c2 qb))
  have m2 : Q6 _ (w.alloc (qObj a1 c1 qa)).heap.size a2 c2 qb := Bk.new (w.alloc (qObj a1 c1 qa)) 26 #[.int .i64 qb.t, .int .i64 qb.z.x, .int .i64 qb.z.y, .bool qb.z.r, .bool qb.b, .slice a2 qb.l.length c2]
  rw [show (w.alloc (qObj a1 c1 qa)).heap.size = w.heap.size + 1 by simp] at m2
  have k1 := h1.up b0
  have k2 := h2.up b0
  have hE0 := env_keep hE b0
  have hV1 := fun W (hW : Qr W a1 qa) => valV_any qa a1 c1 W hW.l hW.n
  have hV2 := fun W (hW : Qr W a2 qb) => valV_any qb a2 c2 W hW.l hW.n
  obtain ⟨tx, htx⟩ := txR_fun qa.rv
  have hck := fun x y W (hv : Vr W x qa.rv) => check_any qa.rv x y W hv.z hv.l hv.n
  have hvl := fun x y W (hv : Vr W x qa.rv) => rvalid_any qa.rv x y W hv
  obtain ⟨kk, hkk⟩ : ∃ kk : Int, Hid (kk = if soundV qa.rv then 0 else 3) := ⟨_, rfl⟩
  rw [← hkk.out] at htx hck
  obtain ⟨so, hso⟩ : ∃ so, Hid (so = soundV qa.rv) := ⟨_, rfl⟩
  rw [← hso.out] at hvl
  have HX : Hid (∀ e, txR qa.rv e → e = .returned (.tuple #[.string (bs tx), .int .i64 kk])) := htx
  clear htx
  unfold qV qObj at *
  generalize hW0 : (w.alloc (.cells #[.int .i64 qa.t, .int .i64 qa.z.x, .int .i64 qa.z.y, .bool qa.z.r, .bool qa.b, .slice a1 qa.l.length c1] 26)).alloc (.cells #[.int .i64 qb.t, .int .i64 qb.z.x, .int .i64 qb.z.y, .bool qb.z.r, .bool qb.b, .slice a2 qb.l.length c2] 26) = W0 at *
  go_enter Tryz.func3, Tryz.ntmps3
  go_wp2_with fail
  refine (awake9_any _ hE0).mono ?_
  rintro e w1 ⟨rfl, hb1⟩
  clear hW0
  have B1 : Below W0.heap.size W0 w1 := hb1
  clear hb1
  obtain ⟨p0, p1, p2, p3, p4, p5⟩ := (show Q6 _ _ _ _ _ from Bk.up m1 B1).cells
  go_wp2_with fail
  refine (hV1 _ (k1.up B1)).mono ?_
  rintro e w2 ⟨x1, y1, rfl, v1, hb2⟩
  have B2 := Below.thn B1 hb2
  clear p0 p1 p2 p3 p4 p5
  go_wp2_with fail
  refine (text_any qa.rv x1 y1 w2 (env_keep hE0 B2).tab v1).mono ?_
  rintro e w3 ⟨ht3, hb3⟩
  have B3 := Below.thn B2 hb3
  have e3 := HX.out _ ht3
  subst e3
  obtain ⟨p0, p1, p2, p3, p4, p5⟩ := (show Q6 _ _ _ _ _ from Bk.up m1 B3).cells
  clear ht3 v1 hb3 hb2
  go_wp2_with fail
  refine (hV1 _ (k1.up B3)).mono ?_
  rintro e w4 ⟨x2, y2, rfl, v2, hb4⟩
  have B4 := Below.thn B3 hb4
  clear p0 p1 p2 p3 p4 p5
  go_wp2_with fail
  refine (rtext_any qa.rv x2 y2 w4 v2).mono ?_
  rintro e w5 ⟨ht5, hb5⟩
  have B5 := Below.thn B4 hb5
  have e5 := HX.out _ ht5
  subst e5
  obtain ⟨p0, p1, p2, p3, p4, p5⟩ := (show Q6 _ _ _ _ _ from Bk.up m1 B5).cells
  clear ht5 v2 hb5 hb4
  go_wp2_with fail
  refine (hV1 _ (k1.up B5)).mono ?_
  rintro e w6 ⟨x3, y3, rfl, v3, hb6⟩
  have B6 := Below.thn B5 hb6
  clear p0 p1 p2 p3 p4 p5
  go_wp2_with fail
  refine (hvl x3 y3 w6 v3).mono ?_
  rintro e w7 ⟨rfl, hb7⟩
  have B7 := Below.thn B6 hb7
  obtain ⟨p0, p1, p2, p3, p4, p5⟩ := (show Q6 _ _ _ _ _ from Bk.up m1 B7).cells
  clear v3 hb6 hb7
  go_wp2_with fail
  refine (hV1 _ (k1.up B7)).mono ?_
  rintro e w8 ⟨x4, y4, rfl, v4, hb8⟩
  have B8 := Below.thn B7 hb8
  clear p0 p1 p2 p3 p4 p5
  go_wp2_with fail
  refine (hck x4 y4 w8 v4).mono ?_
  rintro e w9 ⟨rfl, hb9⟩
  have B9 := Below.thn B8 hb9
  clear v4 hb8 hb9
  have b9 := Below.thn b0 B9
  have M1 : Q6 w9 w.heap.size a1 c1 qa := Bk.up m1 B9
  have M2 : Q6 w9 (w.heap.size + 1) a2 c2 qb := Bk.up m2 B9
  have K1 := k1.up B9
  have K2 := k2.up B9
  clear m1 m2 k1 k2 hE0 HX B1 B2 B3 B4 B5 B6 B7 B8
  have hst : ((bs tx).toList == (bs tx).toList) = true := beq_self_eq_true _
  have hlt1 := Bk.lt M1
  have hlt2 := Bk.lt M2
  have hSS : ∀ X, Below w9.heap.size w9 X → X.cell? ⟨w.heap.size, 0, none⟩ = some (.int .i64 qa.t) ∧ X.cell? ⟨w.heap.size, 1, none⟩ = some (.int .i64 qa.z.x) ∧ X.cell? ⟨w.heap.size, 2, none⟩ = some (.int .i64 qa.z.y) ∧ X.cell? ⟨w.heap.size, 3, none⟩ = some (.bool qa.z.r) ∧ X.cell? ⟨w.heap.size, 4, none⟩ = some (.bool qa.b) ∧ X.cell? ⟨w.heap.size, 5, none⟩ = some (.slice a1 qa.l.length c1) ∧ X.cell? ⟨w.heap.size + 1, 0, none⟩ = some (.int .i64 qb.t) ∧ X.cell? ⟨w.heap.size + 1, 1, none⟩ = some (.int .i64 qb.z.x) ∧ X.cell? ⟨w.heap.size + 1, 2, none⟩ = some (.int .i64 qb.z.y) ∧ X.cell? ⟨w.heap.size + 1, 3, none⟩ = some (.bool qb.z.r) ∧ X.cell? ⟨w.heap.size + 1, 4, none⟩ = some (.bool qb.b) ∧ X.cell? ⟨w.heap.size + 1, 5, none⟩ = some (.slice a2 qb.l.length c2) := by
    intro X hX
    obtain ⟨u0, u1, u2, u3, u4, u5⟩ := M1.cells
    obtain ⟨z0, z1, z2, z3, z4, z5⟩ := M2.cells
    exact ⟨(hX.cell hlt1).trans u0, (hX.cell hlt1).trans u1, (hX.cell hlt1).trans u2, (hX.cell hlt1).trans u3, (hX.cell hlt1).trans u4, (hX.cell hlt1).trans u5, (hX.cell hlt2).trans z0, (hX.cell hlt2).trans z1, (hX.cell hlt2).trans z2, (hX.cell hlt2).trans z3, (hX.cell hlt2).trans z4, (hX.cell hlt2).trans z5⟩
  have HS : Hid (∀ X, Below w9.heap.size w9 X → X.cell? ⟨w.heap.size, 0, none⟩ = some (.int .i64 qa.t) ∧ X.cell? ⟨w.heap.size, 1, none⟩ = some (.int .i64 qa.z.x) ∧ X.cell? ⟨w.heap.size, 2, none⟩ = some (.int .i64 qa.z.y) ∧ X.cell? ⟨w.heap.size, 3, none⟩ = some (.bool qa.z.r) ∧ X.cell? ⟨w.heap.size, 4, none⟩ = some (.bool qa.b) ∧ X.cell? ⟨w.heap.size, 5, none⟩ = some (.slice a1 qa.l.length c1) ∧ X.cell? ⟨w.heap.size + 1, 0, none⟩ = some (.int .i64 qb.t) ∧ X.cell? ⟨w.heap.size + 1, 1, none⟩ = some (.int .i64 qb.z.x) ∧ X.cell? ⟨w.heap.size + 1, 2, none⟩ = some (.int .i64 qb.z.y) ∧ X.cell? ⟨w.heap.size + 1, 3, none⟩ = some (.bool qb.z.r) ∧ X.cell? ⟨w.heap.size + 1, 4, none⟩ = some (.bool qb.b) ∧ X.cell? ⟨w.heap.size + 1, 5, none⟩ = some (.slice a2 qb.l.length c2)) := hSS
  have s4 := hSS w9 (Below.refl _ _)
  have bD := (Below.refl w9.heap.size w9).drew
  have sD := hSS w9.drew bD
  have hs1 := fun x y x' y' W (hv : Vr W x qa.rv) (hu : Vr W x' qb.rv) => same_any qa.rv qb.rv x x' y y' W hv hu
  have hs2 := fun x y x' y' W (hv : Vr W x qa.rv) (hu : Vr W x' qb.rv) => rsame_any qa.rv qb.rv x x' y y' W hv hu
  clear hSS hck hvl M1 M2
  go_upto_region 7 with fail
  have hkk2 := hkk.out
  rw [← hso.out] at hkk2
  clear hkk hso
  generalize sameV qa.rv qb.rv = sm at *
  cases so
  all_goals
    simp only [Bool.false_eq_true, if_true, if_false] at hkk2
    subst hkk2
    cases sm
    all_goals
      first | (go_region_held (fun X => X.cell? ⟨w.heap.size, 0, none⟩ = some (.int .i64 qa.t) ∧ X.cell? ⟨w.heap.size, 1, none⟩ = some (.int .i64 qa.z.x) ∧ X.cell? ⟨w.heap.size, 2, none⟩ = some (.int .i64 qa.z.y) ∧ X.cell? ⟨w.heap.size, 3, none⟩ = some (.bool qa.z.r) ∧ X.cell? ⟨w.heap.size, 4, none⟩ = some (.bool qa.b) ∧ X.cell? ⟨w.heap.size, 5, none⟩ = some (.slice a1 qa.l.length c1) ∧ X.cell? ⟨w.heap.size + 1, 0, none⟩ = some (.int .i64 qb.t) ∧ X.cell? ⟨w.heap.size + 1, 1, none⟩ = some (.int .i64 qb.z.x) ∧ X.cell? ⟨w.heap.size + 1, 2, none⟩ = some (.int .i64 qb.z.y) ∧ X.cell? ⟨w.heap.size + 1, 3, none⟩ = some (.bool qb.z.r) ∧ X.cell? ⟨w.heap.size + 1, 4, none⟩ = some (.bool qb.b) ∧ X.cell? ⟨w.heap.size + 1, 5, none⟩ = some (.slice a2 qb.l.length c2))
        (first | (with_reducible exact sD) | (with_reducible exact s4) | (with_reducible exact sa) | (with_reducible exact sb) | (with_reducible exact sc) | (with_reducible exact sd) | (with_reducible exact se) | (with_reducible exact sf)) (first
        | (go_at_call 10; (with_reducible refine Calls.mono (hV2 _ (K2.up bd)) ?_); rintro e we ⟨xe, ye, rfl, ve, hbe⟩; have be := Below.thn bd hbe; have se := HS.out we be; have vd2 := vd.up hbe)
        | (go_at_call 10; (with_reducible refine Calls.mono (hV1 _ (K1.up bc)) ?_); rintro e wd ⟨xd, yd, rfl, vd, hbd⟩; have bd := Below.thn bc hbd; have sd := HS.out wd bd)
        | (go_at_call 10; (with_reducible refine Calls.mono (hV2 _ (K2.up ba)) ?_); rintro e wb ⟨xb, yb, rfl, vb, hbb⟩; have bb := Below.thn ba hbb; have sb := HS.out wb bb; have va2 := va.up hbb)
        | (go_at_call 10; (with_reducible refine Calls.mono (hV1 _ (K1.up bD)) ?_); rintro e wa ⟨xa, ya, rfl, va, hba⟩; have ba := Below.thn bD hba; have sa := HS.out wa ba)
        | (go_at_call 14; (with_reducible refine Calls.mono (hs1 xa ya xb yb _ va2 vb) ?_); rintro e wc ⟨rfl, hbc⟩; have bc := Below.thn bb hbc; have sc := HS.out wc bc)
        | (go_at_call 15; (with_reducible refine Calls.mono (hs2 xd yd xe ye _ vd2 ve) ?_); rintro e wf ⟨rfl, hbf⟩; have bf := Below.thn be hbf; have sf := HS.out wf bf)
        | fail)) | fail
      all_goals
        go_wp2_with fail
        go_ret
        exact ⟨rfl, Below.thn b9 bf⟩
end Go.Proofs.YtbgggbkmnfppoaaGreatDoor
