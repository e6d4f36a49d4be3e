/-
  A call of a script on both heaps: they do not part.
-/
import Derived.Test.YtdbnlgjpfkfnjaaDu
namespace Go.Proofs.Ytdbnlgjpfkfnjaa
open Go.RowKit
open Go.Lib
set_option maxRecDepth 100000

theorem into_all (n : Int) : ∃ i : Nat, i < 7 ∧ ∀ w, Calls Try.prog 11 #[.int .i64 n, .int .i64 7] w fun e w' => e = .returned (.int .i64 i) ∧ w' = w := by
  obtain ⟨i, h1, h2, h3, h4⟩ := mod7 n
  refine ⟨i, h1, fun w => ?_⟩
  generalize hm : n.tmod 7 = m at *
  go_enter Try.func11, Try.ntmps11
  go_wp2
  go_ret
  exact ⟨by simp_all, rfl⟩
theorem ak_cells {X : World} {g : Nat} {q : Ak} (h : AkB X g q) : X.cell? ⟨g, 1, none⟩ = some (.int .i64 q.a) ∧ X.cell? ⟨g, 2, none⟩ = some (.int .i64 q.c.k) ∧ X.cell? ⟨g, 3, none⟩ = some (.int .i64 q.c.a) ∧ X.cell? ⟨g, 4, none⟩ = some (.int .i64 q.c.x) ∧ X.cell? ⟨g, 5, none⟩ = some (.int .i64 q.c.y) ∧ X.cell? ⟨g, 6, none⟩ = some (.bool q.c.r) ∧ X.cell? ⟨g, 7, none⟩ = some (.bool q.c.b) ∧ X.cell? ⟨g, 8, none⟩ = some (.int .i64 q.d.k) ∧ X.cell? ⟨g, 9, none⟩ = some (.int .i64 q.d.a) ∧ X.cell? ⟨g, 10, none⟩ = some (.int .i64 q.d.x) ∧ X.cell? ⟨g, 11, none⟩ = some (.int .i64 q.d.y) ∧ X.cell? ⟨g, 12, none⟩ = some (.bool q.d.r) ∧ X.cell? ⟨g, 13, none⟩ = some (.bool q.d.b) := by
  obtain ⟨c0, c1, c2, c3, c4, c5, c6, c7, c8, c9, c10, c11, c12, c13⟩ := h.cells
  exact ⟨c1, c2, c3, c4, c5, c6, c7, c8, c9, c10, c11, c12, c13⟩
/-- Both have made the step. -/
def StepP (w w' : World) (S1 S2 : Nat → Prop) (bh bm n : Nat) : Prop := ∃ (H' : Hm) (T1 T2 : Nat → Prop), St w w' S1 S2 T1 T2 bh bm H' H' ∧ Sz (n + 1) H' ∧ OkH H'

set_option maxHeartbeats 4000000 in
theorem step0 {w : World} {S1 S2 : Nat → Prop} {bh bm n : Nat} {H : Hm} (st : St w w S1 S2 S1 S2 bh bm H H) (hsz : Sz n H) (hok : OkH H) (hl : n < 1260000000000) (q : Ak) (hin : ∀ w, Calls Try.prog 11 #[.int .i64 q.k, .int .i64 7] w fun e w' => e = .returned (.int .i64 0) ∧ w' = w) :
    Calls Try.prog 9 #[.pointer (some ⟨bh, 0, none⟩), .pointer (some ⟨bm, 0, none⟩), akV q] w fun e w' => e = .returned (.bool true) ∧ StepP w w' S1 S2 bh bm n := by
  have b0 := below_alloc w (.cells (akC q).toArray 37)
  have a1 : AkB (w.alloc (.cells (akC q).toArray 37)) w.heap.size q := ⟨Bk.new w 37 (akC q).toArray⟩
  have x1 := st.out1 (Nat.le_refl _)
  have x2 := st.out2 (Nat.le_refl _)
  have st1 := st.up b0
  clear st b0
  unfold akV
  unfold akC at a1 st1
  go_enter Try.func9, Try.ntmps9
  go_upto_region 1 with fail
  generalize w.alloc (.cells [.int .i64 q.k, .int .i64 q.a, .int .i64 q.c.k, .int .i64 q.c.a, .int .i64 q.c.x, .int .i64 q.c.y, .bool q.c.r, .bool q.c.b, .int .i64 q.d.k, .int .i64 q.d.a, .int .i64 q.d.x, .int .i64 q.d.y, .bool q.d.r, .bool q.d.b].toArray 37) = w1 at *
  have c0 : w1.cell? ⟨w.heap.size, 0, none⟩ = some (.int .i64 q.k) := a1.bk.cell 0
  have c1 : w1.cell? ⟨w.heap.size, 1, none⟩ = some (.int .i64 q.a) := a1.bk.cell 1
  have hq0 : w.heap.size < w1.heap.size := a1.bk.lt
  have HO : Hid (OkH H) := hok
  have HX1 : Hid (¬ S1 w.heap.size) := x1
  have HX2 : Hid (¬ S2 w.heap.size) := x2
  have HS : Hid (Sz n H) := hsz
  have HL : Hid (n < 1260000000000) := hl
  have HT : Hid (St w w1 S1 S2 S1 S2 bh bm H H) := st1
  clear hok x1 x2 hsz hl st1
  go_wp2_with fail
  refine (hin _).mono ?_
  rintro e w' ⟨rfl, rfl⟩
  clear hin
  go_wp2_with fail
  refine (delay_any HT.out.p q.a HS.out HL.out).mono ?_
  rintro e w2 ⟨rfl, hN⟩
  obtain ⟨T1, st2, s1, U1⟩ := HT.out.pcall hN
  have a2 : AkB w2 w.heap.size q := ⟨U1.bk a1.bk HX1.out⟩
  have c1' : w2.cell? ⟨w.heap.size, 1, none⟩ = some (.int .i64 q.a) := a2.bk.cell 1
  have hr := rdelay_any st2.r q.a HS.out HL.out
  have HU : Hid (St _ _ _ _ _ _ _ _ _ _) := st2
  clear hN U1 st2 s1 HT c0 c1
  go_wp2_with (go_at_call 23; refine hr.mono ?_; rintro e w3 ⟨rfl, hN3⟩; obtain ⟨T2, st3, _, _⟩ := HU.out.rcall hN3)
  go_ret
  exact ⟨rfl, _, _, _, st3, by have := HS.out; unfold Sz at this ⊢; simp only [List.length_append, List.length_singleton]; omega, ok_app HO.out vc_zero (H.th + 1)⟩

set_option maxHeartbeats 4000000 in
theorem step1 {w : World} {S1 S2 : Nat → Prop} {bh bm n : Nat} {H : Hm} (st : St w w S1 S2 S1 S2 bh bm H H) (hsz : Sz n H) (hok : OkH H) (hl : n < 1260000000000) (q : Ak) (hin : ∀ w, Calls Try.prog 11 #[.int .i64 q.k, .int .i64 7] w fun e w' => e = .returned (.int .i64 1) ∧ w' = w) :
    Calls Try.prog 9 #[.pointer (some ⟨bh, 0, none⟩), .pointer (some ⟨bm, 0, none⟩), akV q] w fun e w' => e = .returned (.bool true) ∧ StepP w w' S1 S2 bh bm n := by
  have b0 := below_alloc w (.cells (akC q).toArray 37)
  have a1 : AkB (w.alloc (.cells (akC q).toArray 37)) w.heap.size q := ⟨Bk.new w 37 (akC q).toArray⟩
  have x1 := st.out1 (Nat.le_refl _)
  have x2 := st.out2 (Nat.le_refl _)
  have st1 := st.up b0
  clear st b0
  unfold akV
  unfold akC at a1 st1
  go_enter Try.func9, Try.ntmps9
  go_upto_region 1 with fail
  generalize w.alloc (.cells [.int .i64 q.k, .int .i64 q.a, .int .i64 q.c.k, .int .i64 q.c.a, .int .i64 q.c.x, .int .i64 q.c.y, .bool q.c.r, .bool q.c.b, .int .i64 q.d.k, .int .i64 q.d.a, .int .i64 q.d.x, .int .i64 q.d.y, .bool q.d.r, .bool q.d.b].toArray 37) = w1 at *
  have c0 : w1.cell? ⟨w.heap.size, 0, none⟩ = some (.int .i64 q.k) := a1.bk.cell 0
  have c1 : w1.cell? ⟨w.heap.size, 1, none⟩ = some (.int .i64 q.a) := a1.bk.cell 1
  have hq0 : w.heap.size < w1.heap.size := a1.bk.lt
  have HO : Hid (OkH H) := hok
  have HX1 : Hid (¬ S1 w.heap.size) := x1
  have HX2 : Hid (¬ S2 w.heap.size) := x2
  have HS : Hid (Sz n H) := hsz
  have HL : Hid (n < 1260000000000) := hl
  have HT : Hid (St w w1 S1 S2 S1 S2 bh bm H H) := st1
  clear hok x1 x2 hsz hl st1
  go_wp2_with fail
  refine (hin _).mono ?_
  rintro e w' ⟨rfl, rfl⟩
  clear hin
  go_wp2_with fail
  refine (poison_any HT.out.p HS.out HL.out).mono ?_
  rintro e w2 ⟨rfl, hN⟩
  obtain ⟨T1, st2, s1, U1⟩ := HT.out.pcall hN
  have a2 : AkB w2 w.heap.size q := ⟨U1.bk a1.bk HX1.out⟩
  have c1' : w2.cell? ⟨w.heap.size, 1, none⟩ = some (.int .i64 q.a) := a2.bk.cell 1
  have hr := rpoison_any st2.r HS.out HL.out
  have HU : Hid (St _ _ _ _ _ _ _ _ _ _) := st2
  clear hN U1 st2 s1 HT c0 c1
  go_wp2_with (go_at_call 24; refine hr.mono ?_; rintro e w3 ⟨rfl, hN3⟩; obtain ⟨T2, st3, _, _⟩ := HU.out.rcall hN3)
  go_ret
  exact ⟨rfl, _, _, _, st3, by have := HS.out; unfold Sz at this ⊢; simp only [List.length_append, List.length_singleton]; omega, ok_app HO.out vc_zero H.th⟩

set_option maxHeartbeats 4000000 in
theorem step3 {w : World} {S1 S2 : Nat → Prop} {bh bm n : Nat} {H : Hm} (st : St w w S1 S2 S1 S2 bh bm H H) (hsz : Sz n H) (hok : OkH H) (hl : n < 1260000000000) (q : Ak) (hin : ∀ w, Calls Try.prog 11 #[.int .i64 q.k, .int .i64 7] w fun e w' => e = .returned (.int .i64 3) ∧ w' = w) :
    Calls Try.prog 9 #[.pointer (some ⟨bh, 0, none⟩), .pointer (some ⟨bm, 0, none⟩), akV q] w fun e w' => e = .returned (.bool true) ∧ StepP w w' S1 S2 bh bm n := by
  have b0 := below_alloc w (.cells (akC q).toArray 37)
  have a1 : AkB (w.alloc (.cells (akC q).toArray 37)) w.heap.size q := ⟨Bk.new w 37 (akC q).toArray⟩
  have x1 := st.out1 (Nat.le_refl _)
  have x2 := st.out2 (Nat.le_refl _)
  have st1 := st.up b0
  clear st b0
  unfold akV
  unfold akC at a1 st1
  go_enter Try.func9, Try.ntmps9
  go_upto_region 1 with fail
  generalize w.alloc (.cells [.int .i64 q.k, .int .i64 q.a, .int .i64 q.c.k, .int .i64 q.c.a, .int .i64 q.c.x, .int .i64 q.c.y, .bool q.c.r, .bool q.c.b, .int .i64 q.d.k, .int .i64 q.d.a, .int .i64 q.d.x, .int .i64 q.d.y, .bool q.d.r, .bool q.d.b].toArray 37) = w1 at *
  have c0 : w1.cell? ⟨w.heap.size, 0, none⟩ = some (.int .i64 q.k) := a1.bk.cell 0
  have c1 : w1.cell? ⟨w.heap.size, 1, none⟩ = some (.int .i64 q.a) := a1.bk.cell 1
  have hq0 : w.heap.size < w1.heap.size := a1.bk.lt
  have HO : Hid (OkH H) := hok
  have HX1 : Hid (¬ S1 w.heap.size) := x1
  have HX2 : Hid (¬ S2 w.heap.size) := x2
  have HS : Hid (Sz n H) := hsz
  have HL : Hid (n < 1260000000000) := hl
  have HT : Hid (St w w1 S1 S2 S1 S2 bh bm H H) := st1
  clear hok x1 x2 hsz hl st1
  go_wp2_with fail
  refine (hin _).mono ?_
  rintro e w' ⟨rfl, rfl⟩
  clear hin
  go_wp2_with fail
  refine (look_any HT.out.p q.a).mono ?_
  rintro e w2 ⟨rfl, hN⟩
  have st2 := HT.out.up hN
  have a2 : AkB w2 w.heap.size q := ⟨a1.bk.up hN⟩
  have z2 := hN.size
  have y1 := HX1.out
  have HU2 : Hid (St _ _ _ _ _ _ _ _ _ _) := st2
  have hZ : Bk (w2.alloc (.cells #[.int .i64 0, .int .i64 0, .int .i64 0, .complex .f64 0 0, .bool false, .int .i64 0] 60)) w2.heap.size 60 (ndC nd0) := Bk.new w2 60 #[.int .i64 0, .int .i64 0, .int .i64 0, .complex .f64 0 0, .bool false, .int .i64 0]
  have v2 := below_alloc w2 (.cells #[.int .i64 0, .int .i64 0, .int .i64 0, .complex .f64 0 0, .bool false, .int .i64 0] 60)
  clear hN c0 c1 HT a1
  have ho := ok_get HO.out q.a
  generalize hE : (lookP H q.a).1 = N at *
  have HE : Hid ((lookP H q.a).1 = N) := hE
  clear hE
  have HU2 : Hid (St _ _ _ _ _ _ _ _ _ _) := st2
  go_upto_region 14 with (refine wpList_storeN rfl 60 (.tmp 15) (.tmp 104) rfl w2.heap.size 0 (ndC N) rfl rfl hZ (Nat.le_refl 6) Try.infoNd (ndC_one _) ?_; intro w4 m4 hO4)
  rw [over_nd] at m4
  have st4 := (st2.up v2).oth hO4 (st2.out1 (Nat.le_refl _)) (st2.out2 (Nat.le_refl _)) (by omega)
  have HU : Hid (St _ _ _ _ _ _ _ _ _ _) := st4
  have a4 : AkB w4 w.heap.size q := ⟨(a2.bk.up v2).oth hO4 (by omega)⟩
  have c1 : w4.cell? ⟨w.heap.size, 1, none⟩ = some (.int .i64 q.a) := a4.bk.cell 1
  have t4 := m4.lt
  have hr := rlook_any HU.out.r q.a
  rw [HE.out] at hr
  have HV : Hid (St _ _ _ _ _ _ _ _ _ _) := st2
  clear st4 st2 hO4 hZ v2 a2
  go_wp2_with fail
  refine hr.mono ?_
  rintro e w5 ⟨rfl, hN5⟩
  have st2 := HV.out
  have st5 := HU.out.up hN5
  have m5 := m4.up hN5
  have z5 := hN5.size
  have hZ5 : Bk (w5.alloc (.cells #[.int .i64 0, .int .i64 0, .int .i64 0, .complex .f64 0 0, .bool false, .int .i64 0] 60)) w5.heap.size 60 (ndC nd0) := Bk.new w5 60 #[.int .i64 0, .int .i64 0, .int .i64 0, .complex .f64 0 0, .bool false, .int .i64 0]
  have v5 := below_alloc w5 (.cells #[.int .i64 0, .int .i64 0, .int .i64 0, .complex .f64 0 0, .bool false, .int .i64 0] 60)
  clear hN5 hr c1 HU HV
  have HU5 : Hid (St _ _ _ _ _ _ _ _ _ _) := st5
  clear st2
  go_upto_region 15 with (refine wpList_storeN rfl 60 (.tmp 17) (.tmp 111) rfl w5.heap.size 0 (ndC N) rfl rfl hZ5 (Nat.le_refl 6) Try.infoNd (ndC_one _) ?_; intro w6 k6 hO6)
  rw [over_nd] at k6
  have st6 := (st5.up v5).oth hO6 (st5.out1 (Nat.le_refl _)) (st5.out2 (Nat.le_refl _)) (by omega)
  have m6 := (m5.up v5).oth hO6 (by omega)
  have HU6 : Hid (St _ _ _ _ _ _ _ _ _ _) := st6
  obtain ⟨x0, x1, x2, x3, x4, x5⟩ := bk_nd m6
  obtain ⟨y0, y1', y2, y3, y4, y5⟩ := bk_nd k6
  have hal := alike_any N N w6
  rw [alikeN_refl ho] at hal
  clear st5 st6 hO6 v5 hZ5 m5 m4 m6 k6 HU5
  go_wp2_with (go_at_call 22; refine hal.mono ?_; rintro e w7 ⟨rfl, u7⟩)
  go_ret
  exact ⟨by simp, _, _, _, HU6.out.up u7, sz_mono HS.out, HO.out⟩

set_option maxHeartbeats 4000000 in
theorem step5 {w : World} {S1 S2 : Nat → Prop} {bh bm n : Nat} {H : Hm} (st : St w w S1 S2 S1 S2 bh bm H H) (hsz : Sz n H) (hok : OkH H) (hl : n < 1260000000000) (q : Ak) (hin : ∀ w, Calls Try.prog 11 #[.int .i64 q.k, .int .i64 7] w fun e w' => e = .returned (.int .i64 5) ∧ w' = w) :
    Calls Try.prog 9 #[.pointer (some ⟨bh, 0, none⟩), .pointer (some ⟨bm, 0, none⟩), akV q] w fun e w' => e = .returned (.bool true) ∧ StepP w w' S1 S2 bh bm n := by
  have b0 := below_alloc w (.cells (akC q).toArray 37)
  have a1 : AkB (w.alloc (.cells (akC q).toArray 37)) w.heap.size q := ⟨Bk.new w 37 (akC q).toArray⟩
  have x1 := st.out1 (Nat.le_refl _)
  have x2 := st.out2 (Nat.le_refl _)
  have st1 := st.up b0
  clear st b0
  unfold akV
  unfold akC at a1 st1
  go_enter Try.func9, Try.ntmps9
  go_upto_region 1 with fail
  generalize w.alloc (.cells [.int .i64 q.k, .int .i64 q.a, .int .i64 q.c.k, .int .i64 q.c.a, .int .i64 q.c.x, .int .i64 q.c.y, .bool q.c.r, .bool q.c.b, .int .i64 q.d.k, .int .i64 q.d.a, .int .i64 q.d.x, .int .i64 q.d.y, .bool q.d.r, .bool q.d.b].toArray 37) = w1 at *
  have c0 : w1.cell? ⟨w.heap.size, 0, none⟩ = some (.int .i64 q.k) := a1.bk.cell 0
  have c1 : w1.cell? ⟨w.heap.size, 1, none⟩ = some (.int .i64 q.a) := a1.bk.cell 1
  have hq0 : w.heap.size < w1.heap.size := a1.bk.lt
  have HO : Hid (OkH H) := hok
  have HX1 : Hid (¬ S1 w.heap.size) := x1
  have HX2 : Hid (¬ S2 w.heap.size) := x2
  have HS : Hid (Sz n H) := hsz
  have HL : Hid (n < 1260000000000) := hl
  have HT : Hid (St w w1 S1 S2 S1 S2 bh bm H H) := st1
  clear hok x1 x2 hsz hl st1
  go_wp2_with fail
  refine (hin _).mono ?_
  rintro e w' ⟨rfl, rfl⟩
  clear hin
  go_wp2_with fail
  refine (enter_any HT.out.p q.a).mono ?_
  rintro e w2 ⟨rfl, hN⟩
  obtain ⟨T1, st2, s1, U1⟩ := HT.out.pcall hN
  have a2 : AkB w2 w.heap.size q := ⟨U1.bk a1.bk HX1.out⟩
  have z2 := U1.size
  have y1 : ¬ T1 w.heap.size := fun e => (s1 _ e).elim HX1.out fun e => by omega
  have HU2 : Hid (St _ _ _ _ _ _ _ _ _ _) := st2
  have hZ : Bk (w2.alloc (.cells #[.int .i64 0, .int .i64 0, .int .i64 0, .complex .f64 0 0, .bool false, .int .i64 0] 60)) w2.heap.size 60 (ndC nd0) := Bk.new w2 60 #[.int .i64 0, .int .i64 0, .int .i64 0, .complex .f64 0 0, .bool false, .int .i64 0]
  have v2 := below_alloc w2 (.cells #[.int .i64 0, .int .i64 0, .int .i64 0, .complex .f64 0 0, .bool false, .int .i64 0] 60)
  clear hN c0 c1 U1 s1 HT a1
  have ho := ok_enter HO.out q.a
  generalize hE : (enterP H q.a).1.1 = N at *
  have HE : Hid ((enterP H q.a).1.1 = N) := hE
  clear hE
  have HU2 : Hid (St _ _ _ _ _ _ _ _ _ _) := st2
  go_upto_region 22 with (refine wpList_storeN rfl 60 (.tmp 24) (.tmp 160) rfl w2.heap.size 0 (ndC N) rfl rfl hZ (Nat.le_refl 6) Try.infoNd (ndC_one _) ?_; intro w4 m4 hO4)
  rw [over_nd] at m4
  have st4 := (st2.up v2).oth hO4 (st2.out1 (Nat.le_refl _)) (st2.out2 (Nat.le_refl _)) (by omega)
  have HU : Hid (St _ _ _ _ _ _ _ _ _ _) := st4
  have a4 : AkB w4 w.heap.size q := ⟨(a2.bk.up v2).oth hO4 (by omega)⟩
  have c1 : w4.cell? ⟨w.heap.size, 1, none⟩ = some (.int .i64 q.a) := a4.bk.cell 1
  have t4 := m4.lt
  have hr := renter_any HU.out.r q.a
  rw [HE.out] at hr
  have HV : Hid (St _ _ _ _ _ _ _ _ _ _) := st2
  clear st4 st2 hO4 hZ v2 a2
  go_wp2_with fail
  refine hr.mono ?_
  rintro e w5 ⟨rfl, hN5⟩
  have st2 := HV.out
  obtain ⟨T2, st5, s2, U5⟩ := HU.out.rcall hN5
  have m5 := U5.bk m4 (st2.out2 (Nat.le_refl _))
  have z5 := U5.size
  have hZ5 : Bk (w5.alloc (.cells #[.int .i64 0, .int .i64 0, .int .i64 0, .complex .f64 0 0, .bool false, .int .i64 0] 60)) w5.heap.size 60 (ndC nd0) := Bk.new w5 60 #[.int .i64 0, .int .i64 0, .int .i64 0, .complex .f64 0 0, .bool false, .int .i64 0]
  have v5 := below_alloc w5 (.cells #[.int .i64 0, .int .i64 0, .int .i64 0, .complex .f64 0 0, .bool false, .int .i64 0] 60)
  clear hN5 hr c1 U5 HU HV
  have HU5 : Hid (St _ _ _ _ _ _ _ _ _ _) := st5
  clear st2
  go_upto_region 23 with (refine wpList_storeN rfl 60 (.tmp 26) (.tmp 167) rfl w5.heap.size 0 (ndC N) rfl rfl hZ5 (Nat.le_refl 6) Try.infoNd (ndC_one _) ?_; intro w6 k6 hO6)
  rw [over_nd] at k6
  have st6 := (st5.up v5).oth hO6 (st5.out1 (Nat.le_refl _)) (st5.out2 (Nat.le_refl _)) (by omega)
  have m6 := (m5.up v5).oth hO6 (by omega)
  have HU6 : Hid (St _ _ _ _ _ _ _ _ _ _) := st6
  obtain ⟨x0, x1, x2, x3, x4, x5⟩ := bk_nd m6
  obtain ⟨y0, y1', y2, y3, y4, y5⟩ := bk_nd k6
  have hal := alike_any N N w6
  rw [alikeN_refl ho] at hal
  clear st5 st6 hO6 v5 hZ5 m5 m4 m6 k6 HU5
  go_wp2_with (go_at_call 22; refine hal.mono ?_; rintro e w7 ⟨rfl, u7⟩)
  go_ret
  exact ⟨by simp, _, _, _, HU6.out.up u7, sz_enter HS.out _, ok_entered HO.out _⟩

set_option maxHeartbeats 4000000 in
theorem step4 {w : World} {S1 S2 : Nat → Prop} {bh bm n : Nat} {H : Hm} (st : St w w S1 S2 S1 S2 bh bm H H) (hsz : Sz n H) (hok : OkH H) (hl : n < 1260000000000) (q : Ak) (hin : ∀ w, Calls Try.prog 11 #[.int .i64 q.k, .int .i64 7] w fun e w' => e = .returned (.int .i64 4) ∧ w' = w) :
    Calls Try.prog 9 #[.pointer (some ⟨bh, 0, none⟩), .pointer (some ⟨bm, 0, none⟩), akV q] w fun e w' => e = .returned (.bool true) ∧ StepP w w' S1 S2 bh bm n := by
  have b0 := below_alloc w (.cells (akC q).toArray 37)
  have a1 : AkB (w.alloc (.cells (akC q).toArray 37)) w.heap.size q := ⟨Bk.new w 37 (akC q).toArray⟩
  have x1 := st.out1 (Nat.le_refl _)
  have x2 := st.out2 (Nat.le_refl _)
  have st1 := st.up b0
  clear st b0
  unfold akV
  unfold akC at a1 st1
  go_enter Try.func9, Try.ntmps9
  go_upto_region 1 with fail
  generalize w.alloc (.cells [.int .i64 q.k, .int .i64 q.a, .int .i64 q.c.k, .int .i64 q.c.a, .int .i64 q.c.x, .int .i64 q.c.y, .bool q.c.r, .bool q.c.b, .int .i64 q.d.k, .int .i64 q.d.a, .int .i64 q.d.x, .int .i64 q.d.y, .bool q.d.r, .bool q.d.b].toArray 37) = w1 at *
  have c0 : w1.cell? ⟨w.heap.size, 0, none⟩ = some (.int .i64 q.k) := a1.bk.cell 0
  have c1 : w1.cell? ⟨w.heap.size, 1, none⟩ = some (.int .i64 q.a) := a1.bk.cell 1
  have hq0 : w.heap.size < w1.heap.size := a1.bk.lt
  have HO : Hid (OkH H) := hok
  have HX1 : Hid (¬ S1 w.heap.size) := x1
  have HX2 : Hid (¬ S2 w.heap.size) := x2
  have HS : Hid (Sz n H) := hsz
  have HL : Hid (n < 1260000000000) := hl
  have HT : Hid (St w w1 S1 S2 S1 S2 bh bm H H) := st1
  clear hok x1 x2 hsz hl st1
  go_wp2_with fail
  refine (hin _).mono ?_
  rintro e w' ⟨rfl, rfl⟩
  clear hin
  go_wp2_with fail
  refine (parts_any HT.out.p q.a).mono ?_
  rintro e w2 ⟨rfl, hN⟩
  have st2 := HT.out.up hN
  have a2 : AkB w2 w.heap.size q := ⟨a1.bk.up hN⟩
  have z2 := hN.size
  obtain ⟨v2, hA, hB⟩ := new2 w2 55 #[.int .i64 0, .complex .f64 0 0, .bool false, .int .i64 0] #[.int .i64 0, .complex .f64 0 0, .bool false, .int .i64 0]
  have hA : Bk _ w2.heap.size 55 (clC cl0) := hA
  have hB : Bk _ (w2.heap.size + 1) 55 (clC cl0) := hB
  clear hN c0 c1 HT a1
  obtain ⟨ho1, ho2⟩ := ok_parts HO.out q.a
  obtain ⟨P, hE⟩ : ∃ P, P = (partsP H q.a).1 := ⟨_, rfl⟩
  rw [← hE] at ho1 ho2 ⊢
  have HE : Hid (P = (partsP H q.a).1) := hE
  clear hE
  obtain ⟨N, M⟩ := P
  dsimp only at ho1 ho2
  go_upto_region 18 with (first
    | (refine wpList_storeN rfl 55 (.tmp 19) (.tmp 128) rfl w2.heap.size 0 (clC N) rfl rfl hA (Nat.le_refl 4) Try.infoCl (clC_one _) ?_; intro w3 p3 hO3; have hB3 := hB.oth hO3 (by omega))
    | (refine wpList_storeN rfl 55 (.tmp 20) (.tmp 129) rfl (w2.heap.size + 1) 0 (clC M) rfl rfl hB3 (Nat.le_refl 4) Try.infoCl (clC_one _) ?_; intro w4 r4 hO4))
  rw [over_cl] at p3 r4
  have p4 := p3.oth hO4 (by omega)
  have st4 := ((st2.up v2).oth hO3 (st2.out1 (Nat.le_refl _)) (st2.out2 (Nat.le_refl _)) (by omega)).oth hO4 (st2.out1 (Nat.le_succ _)) (st2.out2 (Nat.le_succ _)) (by omega)
  have HU : Hid (St _ _ _ _ _ _ _ _ _ _) := st4
  have a4 : AkB w4 w.heap.size q := ⟨((a2.bk.up v2).oth hO3 (by omega)).oth hO4 (by omega)⟩
  have c1 : w4.cell? ⟨w.heap.size, 1, none⟩ = some (.int .i64 q.a) := a4.bk.cell 1
  have t4 := r4.lt
  have hr := rparts_any HU.out.r q.a
  rw [← HE.out] at hr
  clear st4 st2 hO4 hO3 hA hB hB3 v2 a2 p3
  go_wp2_with fail
  refine hr.mono ?_
  rintro e w5 ⟨rfl, hN5⟩
  have st5 := HU.out.up hN5
  have p5 := p4.up hN5
  have r5 := r4.up hN5
  have z5 := hN5.size
  have hZ5 : Bk (w5.alloc (.cells #[.int .i64 0, .complex .f64 0 0, .bool false, .int .i64 0, .int .i64 0, .complex .f64 0 0, .bool false, .int .i64 0] 80)) w5.heap.size 80 (prC (cl0, cl0)) := Bk.new w5 80 #[.int .i64 0, .complex .f64 0 0, .bool false, .int .i64 0, .int .i64 0, .complex .f64 0 0, .bool false, .int .i64 0]
  have v5 := below_alloc w5 (.cells #[.int .i64 0, .complex .f64 0 0, .bool false, .int .i64 0, .int .i64 0, .complex .f64 0 0, .bool false, .int .i64 0] 80)
  clear hN5 hr c1 HU
  have HU5 : Hid (St _ _ _ _ _ _ _ _ _ _) := st5
  go_upto_region 19 with (refine wpList_storeN rfl 80 (.tmp 22) (.tmp 136) rfl w5.heap.size 0 (prC (N, M)) rfl rfl hZ5 (Nat.le_refl 8) Try.infoPr8 (prC_one _) ?_; intro w6 k6 hO6)
  have k6 : Bk w6 w5.heap.size 80 (prC (N, M)) := k6
  have st6 := (st5.up v5).oth hO6 (st5.out1 (Nat.le_refl _)) (st5.out2 (Nat.le_refl _)) (by omega)
  have p6 := (p5.up v5).oth hO6 (by omega)
  have r6 := (r5.up v5).oth hO6 (by omega)
  have HU6 : Hid (St _ _ _ _ _ _ _ _ _ _) := st6
  have hs1 := fun W => same_any N N W
  rw [sameC_refl ho1] at hs1
  have hs2 := fun W => same_any M M W
  rw [sameC_refl ho2] at hs2
  obtain ⟨x0, x1, x2, x3⟩ := bk_cl p6
  obtain ⟨y0, y1, y2, y3, _, _, _, _⟩ := bk_pr k6
  clear st5 st6 hO6 v5 hZ5 p5 r5 p4 r4 p6 HU5
  go_wp2_with fail
  refine (hs1 _).mono ?_
  rintro e w7 ⟨rfl, u7⟩
  have r7 := r6.up u7
  have k7 := k6.up u7
  clear x0 x1 x2 x3 y0 y1 y2 y3 r6 k6 hs1
  obtain ⟨x0, x1, x2, x3⟩ := bk_cl r7
  obtain ⟨_, _, _, _, y4, y5, y6, y7⟩ := bk_pr k7
  go_wp2_with (go_at_call 19; refine (hs2 _).mono ?_; rintro e w8 ⟨rfl, u8⟩)
  go_ret
  exact ⟨by simp, _, _, _, (HU6.out.up u7).up u8, sz_mono HS.out, HO.out⟩

set_option maxHeartbeats 4000000 in
theorem step2 {w : World} {S1 S2 : Nat → Prop} {bh bm n : Nat} {H : Hm} (st : St w w S1 S2 S1 S2 bh bm H H) (hsz : Sz n H) (hok : OkH H) (hl : n < 1260000000000) (q : Ak) (hin : ∀ w, Calls Try.prog 11 #[.int .i64 q.k, .int .i64 7] w fun e w' => e = .returned (.int .i64 2) ∧ w' = w) :
    Calls Try.prog 9 #[.pointer (some ⟨bh, 0, none⟩), .pointer (some ⟨bm, 0, none⟩), akV q] w fun e w' => e = .returned (.bool true) ∧ StepP w w' S1 S2 bh bm n := by
  have b0 := below_alloc w (.cells (akC q).toArray 37)
  have a1 : AkB (w.alloc (.cells (akC q).toArray 37)) w.heap.size q := ⟨Bk.new w 37 (akC q).toArray⟩
  have x1 := st.out1 (Nat.le_refl _)
  have x2 := st.out2 (Nat.le_refl _)
  have st1 := st.up b0
  clear st b0
  unfold akV
  unfold akC at a1 st1
  go_enter Try.func9, Try.ntmps9
  go_upto_region 1 with fail
  generalize w.alloc (.cells [.int .i64 q.k, .int .i64 q.a, .int .i64 q.c.k, .int .i64 q.c.a, .int .i64 q.c.x, .int .i64 q.c.y, .bool q.c.r, .bool q.c.b, .int .i64 q.d.k, .int .i64 q.d.a, .int .i64 q.d.x, .int .i64 q.d.y, .bool q.d.r, .bool q.d.b].toArray 37) = w1 at *
  have c0 : w1.cell? ⟨w.heap.size, 0, none⟩ = some (.int .i64 q.k) := a1.bk.cell 0
  have c1 : w1.cell? ⟨w.heap.size, 1, none⟩ = some (.int .i64 q.a) := a1.bk.cell 1
  have hq0 : w.heap.size < w1.heap.size := a1.bk.lt
  have HO : Hid (OkH H) := hok
  have HX1 : Hid (¬ S1 w.heap.size) := x1
  have HX2 : Hid (¬ S2 w.heap.size) := x2
  have HS : Hid (Sz n H) := hsz
  have HL : Hid (n < 1260000000000) := hl
  have HT : Hid (St w w1 S1 S2 S1 S2 bh bm H H) := st1
  clear hok x1 x2 hsz hl st1
  go_wp2_with fail
  refine (hin _).mono ?_
  rintro e w' ⟨rfl, rfl⟩
  clear hin
  have k0 : w'.drew.cell? ⟨w.heap.size, 1, none⟩ = some (.int .i64 q.a) ∧ w'.drew.cell? ⟨w.heap.size, 2, none⟩ = some (.int .i64 q.c.k) ∧ w'.drew.cell? ⟨w.heap.size, 3, none⟩ = some (.int .i64 q.c.a) ∧ w'.drew.cell? ⟨w.heap.size, 4, none⟩ = some (.int .i64 q.c.x) ∧ w'.drew.cell? ⟨w.heap.size, 5, none⟩ = some (.int .i64 q.c.y) ∧ w'.drew.cell? ⟨w.heap.size, 6, none⟩ = some (.bool q.c.r) ∧ w'.drew.cell? ⟨w.heap.size, 7, none⟩ = some (.bool q.c.b) ∧ w'.drew.cell? ⟨w.heap.size, 8, none⟩ = some (.int .i64 q.d.k) ∧ w'.drew.cell? ⟨w.heap.size, 9, none⟩ = some (.int .i64 q.d.a) ∧ w'.drew.cell? ⟨w.heap.size, 10, none⟩ = some (.int .i64 q.d.x) ∧ w'.drew.cell? ⟨w.heap.size, 11, none⟩ = some (.int .i64 q.d.y) ∧ w'.drew.cell? ⟨w.heap.size, 12, none⟩ = some (.bool q.d.r) ∧ w'.drew.cell? ⟨w.heap.size, 13, none⟩ = some (.bool q.d.b) := ak_cells (X := w'.drew) ⟨a1.bk⟩
  go_upto_region 9 with fail
  go_cut [11, 12] (fun x y wx => x = .int .i64 (pairP H (lcP q.c) (lcP q.d)).1.1 ∧ y = .int .i64 (pairP H (lcP q.c) (lcP q.d)).1.2 ∧ ∃ T1, St w wx S1 S2 T1 S2 bh bm (pairP H (lcP q.c) (lcP q.d)).2 H ∧ AkB wx w.heap.size q ∧ ¬ T1 w.heap.size)
  case first =>
    go_region_held3 (fun X => X.cell? ⟨w.heap.size, 1, none⟩ = some (.int .i64 q.a) ∧ X.cell? ⟨w.heap.size, 2, none⟩ = some (.int .i64 q.c.k) ∧ X.cell? ⟨w.heap.size, 3, none⟩ = some (.int .i64 q.c.a) ∧ X.cell? ⟨w.heap.size, 4, none⟩ = some (.int .i64 q.c.x) ∧ X.cell? ⟨w.heap.size, 5, none⟩ = some (.int .i64 q.c.y) ∧ X.cell? ⟨w.heap.size, 6, none⟩ = some (.bool q.c.r) ∧ X.cell? ⟨w.heap.size, 7, none⟩ = some (.bool q.c.b) ∧ X.cell? ⟨w.heap.size, 8, none⟩ = some (.int .i64 q.d.k) ∧ X.cell? ⟨w.heap.size, 9, none⟩ = some (.int .i64 q.d.a) ∧ X.cell? ⟨w.heap.size, 10, none⟩ = some (.int .i64 q.d.x) ∧ X.cell? ⟨w.heap.size, 11, none⟩ = some (.int .i64 q.d.y) ∧ X.cell? ⟨w.heap.size, 12, none⟩ = some (.bool q.d.r) ∧ X.cell? ⟨w.heap.size, 13, none⟩ = some (.bool q.d.b)) (first | with_reducible exact k0 | with_reducible assumption)
      (first
        | (go_at_call 15; refine (c_any ⟨_, _, _, _, _, _⟩ _).mono ?_; rintro e w4 ⟨rfl, u4⟩; have v4 : Below w'.heap.size w' w4 := (by first | exact Below.thn v4 u4 | exact Below.thn (Below.refl w'.heap.size w').drew u4); have k4 : w4.cell? ⟨w.heap.size, 1, none⟩ = some (.int .i64 q.a) ∧ w4.cell? ⟨w.heap.size, 2, none⟩ = some (.int .i64 q.c.k) ∧ w4.cell? ⟨w.heap.size, 3, none⟩ = some (.int .i64 q.c.a) ∧ w4.cell? ⟨w.heap.size, 4, none⟩ = some (.int .i64 q.c.x) ∧ w4.cell? ⟨w.heap.size, 5, none⟩ = some (.int .i64 q.c.y) ∧ w4.cell? ⟨w.heap.size, 6, none⟩ = some (.bool q.c.r) ∧ w4.cell? ⟨w.heap.size, 7, none⟩ = some (.bool q.c.b) ∧ w4.cell? ⟨w.heap.size, 8, none⟩ = some (.int .i64 q.d.k) ∧ w4.cell? ⟨w.heap.size, 9, none⟩ = some (.int .i64 q.d.a) ∧ w4.cell? ⟨w.heap.size, 10, none⟩ = some (.int .i64 q.d.x) ∧ w4.cell? ⟨w.heap.size, 11, none⟩ = some (.int .i64 q.d.y) ∧ w4.cell? ⟨w.heap.size, 12, none⟩ = some (.bool q.d.r) ∧ w4.cell? ⟨w.heap.size, 13, none⟩ = some (.bool q.d.b) := ak_cells ⟨a1.bk.up v4⟩)
        | (go_at_call 14; refine (pair_any (HT.out.p.up v4) (lcP q.c) (lcP q.d) (lcP_lt _) (lcP_lt _) HS.out HL.out).mono ?_; rintro e w6 ⟨rfl, hN6⟩; obtain ⟨T1, st6, s6, U6⟩ := (HT.out.up v4).pcall hN6; have a6 : AkB w6 w.heap.size q := ⟨U6.bk (a1.bk.up v4) HX1.out⟩; have y6 : ¬ T1 w.heap.size := (fun e => (s6 _ e).elim HX1.out fun e => by have := v4.size; omega); have HU6 : Hid (St _ _ _ _ _ _ _ _ _ _) := st6; have k6 : w6.cell? ⟨w.heap.size, 1, none⟩ = some (.int .i64 q.a) ∧ w6.cell? ⟨w.heap.size, 2, none⟩ = some (.int .i64 q.c.k) ∧ w6.cell? ⟨w.heap.size, 3, none⟩ = some (.int .i64 q.c.a) ∧ w6.cell? ⟨w.heap.size, 4, none⟩ = some (.int .i64 q.c.x) ∧ w6.cell? ⟨w.heap.size, 5, none⟩ = some (.int .i64 q.c.y) ∧ w6.cell? ⟨w.heap.size, 6, none⟩ = some (.bool q.c.r) ∧ w6.cell? ⟨w.heap.size, 7, none⟩ = some (.bool q.c.b) ∧ w6.cell? ⟨w.heap.size, 8, none⟩ = some (.int .i64 q.d.k) ∧ w6.cell? ⟨w.heap.size, 9, none⟩ = some (.int .i64 q.d.a) ∧ w6.cell? ⟨w.heap.size, 10, none⟩ = some (.int .i64 q.d.x) ∧ w6.cell? ⟨w.heap.size, 11, none⟩ = some (.int .i64 q.d.y) ∧ w6.cell? ⟨w.heap.size, 12, none⟩ = some (.bool q.d.r) ∧ w6.cell? ⟨w.heap.size, 13, none⟩ = some (.bool q.d.b) := ak_cells a6; clear st6 s6 U6 hN6))
    all_goals
      clear k0 k4 k6 c0 c1
      go_wp2_with fail
      go_meet
      case rel => exact ⟨rfl, rfl, _, HU6.out, a6, y6⟩
  case rest =>
    obtain ⟨rfl, rfl, T1, st2, a2, y2⟩ := hcut
    generalize wc = w2 at *
    have HU2 : Hid (St w w2 S1 S2 T1 S2 bh bm _ H) := st2
    clear st2 c0 c1 k0 HT a1
    have k0 : w2.drew.cell? ⟨w.heap.size, 1, none⟩ = some (.int .i64 q.a) ∧ w2.drew.cell? ⟨w.heap.size, 2, none⟩ = some (.int .i64 q.c.k) ∧ w2.drew.cell? ⟨w.heap.size, 3, none⟩ = some (.int .i64 q.c.a) ∧ w2.drew.cell? ⟨w.heap.size, 4, none⟩ = some (.int .i64 q.c.x) ∧ w2.drew.cell? ⟨w.heap.size, 5, none⟩ = some (.int .i64 q.c.y) ∧ w2.drew.cell? ⟨w.heap.size, 6, none⟩ = some (.bool q.c.r) ∧ w2.drew.cell? ⟨w.heap.size, 7, none⟩ = some (.bool q.c.b) ∧ w2.drew.cell? ⟨w.heap.size, 8, none⟩ = some (.int .i64 q.d.k) ∧ w2.drew.cell? ⟨w.heap.size, 9, none⟩ = some (.int .i64 q.d.a) ∧ w2.drew.cell? ⟨w.heap.size, 10, none⟩ = some (.int .i64 q.d.x) ∧ w2.drew.cell? ⟨w.heap.size, 11, none⟩ = some (.int .i64 q.d.y) ∧ w2.drew.cell? ⟨w.heap.size, 12, none⟩ = some (.bool q.d.r) ∧ w2.drew.cell? ⟨w.heap.size, 13, none⟩ = some (.bool q.d.b) := ak_cells (X := w2.drew) ⟨a2.bk⟩
    go_upto_region 10 with fail
    go_cut [13, 14] (fun x y wx => x = .int .i64 (pairP H (lcP q.c) (lcP q.d)).1.1 ∧ y = .int .i64 (pairP H (lcP q.c) (lcP q.d)).1.2 ∧ ∃ T2, St w wx S1 S2 T1 T2 bh bm (pairP H (lcP q.c) (lcP q.d)).2 (pairP H (lcP q.c) (lcP q.d)).2)
    case first =>
      go_region_held3 (fun X => X.cell? ⟨w.heap.size, 1, none⟩ = some (.int .i64 q.a) ∧ X.cell? ⟨w.heap.size, 2, none⟩ = some (.int .i64 q.c.k) ∧ X.cell? ⟨w.heap.size, 3, none⟩ = some (.int .i64 q.c.a) ∧ X.cell? ⟨w.heap.size, 4, none⟩ = some (.int .i64 q.c.x) ∧ X.cell? ⟨w.heap.size, 5, none⟩ = some (.int .i64 q.c.y) ∧ X.cell? ⟨w.heap.size, 6, none⟩ = some (.bool q.c.r) ∧ X.cell? ⟨w.heap.size, 7, none⟩ = some (.bool q.c.b) ∧ X.cell? ⟨w.heap.size, 8, none⟩ = some (.int .i64 q.d.k) ∧ X.cell? ⟨w.heap.size, 9, none⟩ = some (.int .i64 q.d.a) ∧ X.cell? ⟨w.heap.size, 10, none⟩ = some (.int .i64 q.d.x) ∧ X.cell? ⟨w.heap.size, 11, none⟩ = some (.int .i64 q.d.y) ∧ X.cell? ⟨w.heap.size, 12, none⟩ = some (.bool q.d.r) ∧ X.cell? ⟨w.heap.size, 13, none⟩ = some (.bool q.d.b)) (first | with_reducible exact k0 | with_reducible assumption)
        (first
          | (go_at_call 15; refine (c_any ⟨_, _, _, _, _, _⟩ _).mono ?_; rintro e w4 ⟨rfl, u4⟩; have v4 : Below w2.heap.size w2 w4 := (by first | exact Below.thn v4 u4 | exact Below.thn (Below.refl w2.heap.size w2).drew u4); have k4 : w4.cell? ⟨w.heap.size, 1, none⟩ = some (.int .i64 q.a) ∧ w4.cell? ⟨w.heap.size, 2, none⟩ = some (.int .i64 q.c.k) ∧ w4.cell? ⟨w.heap.size, 3, none⟩ = some (.int .i64 q.c.a) ∧ w4.cell? ⟨w.heap.size, 4, none⟩ = some (.int .i64 q.c.x) ∧ w4.cell? ⟨w.heap.size, 5, none⟩ = some (.int .i64 q.c.y) ∧ w4.cell? ⟨w.heap.size, 6, none⟩ = some (.bool q.c.r) ∧ w4.cell? ⟨w.heap.size, 7, none⟩ = some (.bool q.c.b) ∧ w4.cell? ⟨w.heap.size, 8, none⟩ = some (.int .i64 q.d.k) ∧ w4.cell? ⟨w.heap.size, 9, none⟩ = some (.int .i64 q.d.a) ∧ w4.cell? ⟨w.heap.size, 10, none⟩ = some (.int .i64 q.d.x) ∧ w4.cell? ⟨w.heap.size, 11, none⟩ = some (.int .i64 q.d.y) ∧ w4.cell? ⟨w.heap.size, 12, none⟩ = some (.bool q.d.r) ∧ w4.cell? ⟨w.heap.size, 13, none⟩ = some (.bool q.d.b) := ak_cells ⟨a2.bk.up v4⟩)
          | (go_at_call 25; refine (rpair_any (HU2.out.r.up v4) (lcP q.c) (lcP q.d) (lcP_lt _) (lcP_lt _) HS.out HL.out).mono ?_; rintro e w6 ⟨rfl, hN6⟩; obtain ⟨T2, st6, s6, U6⟩ := (HU2.out.up v4).rcall hN6; have a6 : AkB w6 w.heap.size q := ⟨U6.bk (a2.bk.up v4) HX2.out⟩; have HU6 : Hid (St _ _ _ _ _ _ _ _ _ _) := st6; have k6 : w6.cell? ⟨w.heap.size, 1, none⟩ = some (.int .i64 q.a) ∧ w6.cell? ⟨w.heap.size, 2, none⟩ = some (.int .i64 q.c.k) ∧ w6.cell? ⟨w.heap.size, 3, none⟩ = some (.int .i64 q.c.a) ∧ w6.cell? ⟨w.heap.size, 4, none⟩ = some (.int .i64 q.c.x) ∧ w6.cell? ⟨w.heap.size, 5, none⟩ = some (.int .i64 q.c.y) ∧ w6.cell? ⟨w.heap.size, 6, none⟩ = some (.bool q.c.r) ∧ w6.cell? ⟨w.heap.size, 7, none⟩ = some (.bool q.c.b) ∧ w6.cell? ⟨w.heap.size, 8, none⟩ = some (.int .i64 q.d.k) ∧ w6.cell? ⟨w.heap.size, 9, none⟩ = some (.int .i64 q.d.a) ∧ w6.cell? ⟨w.heap.size, 10, none⟩ = some (.int .i64 q.d.x) ∧ w6.cell? ⟨w.heap.size, 11, none⟩ = some (.int .i64 q.d.y) ∧ w6.cell? ⟨w.heap.size, 12, none⟩ = some (.bool q.d.r) ∧ w6.cell? ⟨w.heap.size, 13, none⟩ = some (.bool q.d.b) := ak_cells a6; clear st6 s6 U6 hN6))
      all_goals
        clear k0 k4 k6
        go_wp2_with fail
        go_meet
        case rel => exact ⟨rfl, rfl, _, HU6.out⟩
    case rest =>
      obtain ⟨rfl, rfl, T2, st3⟩ := hcut
      have HU3 : Hid (St w wc S1 S2 T1 T2 bh bm _ _) := st3
      clear st3 k0 HU2 a2
      go_wp2
      go_ret
      exact ⟨by simp, _, _, _, HU3.out, sz_pair HS.out _ _, ok_pair HO.out _ _⟩

set_option maxHeartbeats 4000000 in
theorem step6 {w : World} {S1 S2 : Nat → Prop} {bh bm n : Nat} {H : Hm} (st : St w w S1 S2 S1 S2 bh bm H H) (hsz : Sz n H) (hok : OkH H) (hl : n < 1260000000000) (q : Ak) (hin : ∀ w, Calls Try.prog 11 #[.int .i64 q.k, .int .i64 7] w fun e w' => e = .returned (.int .i64 6) ∧ w' = w) :
    Calls Try.prog 9 #[.pointer (some ⟨bh, 0, none⟩), .pointer (some ⟨bm, 0, none⟩), akV q] w fun e w' => e = .returned (.bool true) ∧ StepP w w' S1 S2 bh bm n := by
  have b0 := below_alloc w (.cells (akC q).toArray 37)
  have a1 : AkB (w.alloc (.cells (akC q).toArray 37)) w.heap.size q := ⟨Bk.new w 37 (akC q).toArray⟩
  have x1 := st.out1 (Nat.le_refl _)
  have x2 := st.out2 (Nat.le_refl _)
  have st1 := st.up b0
  clear st b0
  unfold akV
  unfold akC at a1 st1
  go_enter Try.func9, Try.ntmps9
  go_upto_region 1 with fail
  generalize w.alloc (.cells [.int .i64 q.k, .int .i64 q.a, .int .i64 q.c.k, .int .i64 q.c.a, .int .i64 q.c.x, .int .i64 q.c.y, .bool q.c.r, .bool q.c.b, .int .i64 q.d.k, .int .i64 q.d.a, .int .i64 q.d.x, .int .i64 q.d.y, .bool q.d.r, .bool q.d.b].toArray 37) = w1 at *
  have c0 : w1.cell? ⟨w.heap.size, 0, none⟩ = some (.int .i64 q.k) := a1.bk.cell 0
  have c1 : w1.cell? ⟨w.heap.size, 1, none⟩ = some (.int .i64 q.a) := a1.bk.cell 1
  have hq0 : w.heap.size < w1.heap.size := a1.bk.lt
  have HO : Hid (OkH H) := hok
  have HX1 : Hid (¬ S1 w.heap.size) := x1
  have HX2 : Hid (¬ S2 w.heap.size) := x2
  have HS : Hid (Sz n H) := hsz
  have HL : Hid (n < 1260000000000) := hl
  have HT : Hid (St w w1 S1 S2 S1 S2 bh bm H H) := st1
  clear hok x1 x2 hsz hl st1
  go_wp2_with fail
  refine (hin _).mono ?_
  rintro e w' ⟨rfl, rfl⟩
  clear hin
  have k0 : w'.drew.cell? ⟨w.heap.size, 1, none⟩ = some (.int .i64 q.a) ∧ w'.drew.cell? ⟨w.heap.size, 2, none⟩ = some (.int .i64 q.c.k) ∧ w'.drew.cell? ⟨w.heap.size, 3, none⟩ = some (.int .i64 q.c.a) ∧ w'.drew.cell? ⟨w.heap.size, 4, none⟩ = some (.int .i64 q.c.x) ∧ w'.drew.cell? ⟨w.heap.size, 5, none⟩ = some (.int .i64 q.c.y) ∧ w'.drew.cell? ⟨w.heap.size, 6, none⟩ = some (.bool q.c.r) ∧ w'.drew.cell? ⟨w.heap.size, 7, none⟩ = some (.bool q.c.b) ∧ w'.drew.cell? ⟨w.heap.size, 8, none⟩ = some (.int .i64 q.d.k) ∧ w'.drew.cell? ⟨w.heap.size, 9, none⟩ = some (.int .i64 q.d.a) ∧ w'.drew.cell? ⟨w.heap.size, 10, none⟩ = some (.int .i64 q.d.x) ∧ w'.drew.cell? ⟨w.heap.size, 11, none⟩ = some (.int .i64 q.d.y) ∧ w'.drew.cell? ⟨w.heap.size, 12, none⟩ = some (.bool q.d.r) ∧ w'.drew.cell? ⟨w.heap.size, 13, none⟩ = some (.bool q.d.b) := ak_cells (X := w'.drew) ⟨a1.bk⟩
  go_upto_region 24 with fail
  go_region_held3 (fun X => X.cell? ⟨w.heap.size, 1, none⟩ = some (.int .i64 q.a) ∧ X.cell? ⟨w.heap.size, 2, none⟩ = some (.int .i64 q.c.k) ∧ X.cell? ⟨w.heap.size, 3, none⟩ = some (.int .i64 q.c.a) ∧ X.cell? ⟨w.heap.size, 4, none⟩ = some (.int .i64 q.c.x) ∧ X.cell? ⟨w.heap.size, 5, none⟩ = some (.int .i64 q.c.y) ∧ X.cell? ⟨w.heap.size, 6, none⟩ = some (.bool q.c.r) ∧ X.cell? ⟨w.heap.size, 7, none⟩ = some (.bool q.c.b) ∧ X.cell? ⟨w.heap.size, 8, none⟩ = some (.int .i64 q.d.k) ∧ X.cell? ⟨w.heap.size, 9, none⟩ = some (.int .i64 q.d.a) ∧ X.cell? ⟨w.heap.size, 10, none⟩ = some (.int .i64 q.d.x) ∧ X.cell? ⟨w.heap.size, 11, none⟩ = some (.int .i64 q.d.y) ∧ X.cell? ⟨w.heap.size, 12, none⟩ = some (.bool q.d.r) ∧ X.cell? ⟨w.heap.size, 13, none⟩ = some (.bool q.d.b)) (first | with_reducible exact k0 | with_reducible assumption)
    (first
      | (go_at_call 29; refine (rupdate_any (HU6.out.r.up u8) q.a (lcP q.c) (lcP_lt _) HS.out HL.out).mono ?_; rintro e w9 ⟨rfl, hN9⟩; obtain ⟨T2, st9, s9, U9⟩ := (HU6.out.up u8).rcall hN9; have HU9 : Hid (St _ _ _ _ _ _ _ _ _ _) := st9; have k9 : w9.cell? ⟨w.heap.size, 1, none⟩ = some (.int .i64 q.a) ∧ w9.cell? ⟨w.heap.size, 2, none⟩ = some (.int .i64 q.c.k) ∧ w9.cell? ⟨w.heap.size, 3, none⟩ = some (.int .i64 q.c.a) ∧ w9.cell? ⟨w.heap.size, 4, none⟩ = some (.int .i64 q.c.x) ∧ w9.cell? ⟨w.heap.size, 5, none⟩ = some (.int .i64 q.c.y) ∧ w9.cell? ⟨w.heap.size, 6, none⟩ = some (.bool q.c.r) ∧ w9.cell? ⟨w.heap.size, 7, none⟩ = some (.bool q.c.b) ∧ w9.cell? ⟨w.heap.size, 8, none⟩ = some (.int .i64 q.d.k) ∧ w9.cell? ⟨w.heap.size, 9, none⟩ = some (.int .i64 q.d.a) ∧ w9.cell? ⟨w.heap.size, 10, none⟩ = some (.int .i64 q.d.x) ∧ w9.cell? ⟨w.heap.size, 11, none⟩ = some (.int .i64 q.d.y) ∧ w9.cell? ⟨w.heap.size, 12, none⟩ = some (.bool q.d.r) ∧ w9.cell? ⟨w.heap.size, 13, none⟩ = some (.bool q.d.b) := ak_cells ⟨U9.bk (a6.bk.up u8) HX2.out⟩; clear st9 s9 U9 hN9)
      | (go_at_call 15; have ht := HU6; refine (c_any ⟨_, _, _, _, _, _⟩ _).mono ?_; rintro e w8 ⟨rfl, u8⟩; have k8 : w8.cell? ⟨w.heap.size, 1, none⟩ = some (.int .i64 q.a) ∧ w8.cell? ⟨w.heap.size, 2, none⟩ = some (.int .i64 q.c.k) ∧ w8.cell? ⟨w.heap.size, 3, none⟩ = some (.int .i64 q.c.a) ∧ w8.cell? ⟨w.heap.size, 4, none⟩ = some (.int .i64 q.c.x) ∧ w8.cell? ⟨w.heap.size, 5, none⟩ = some (.int .i64 q.c.y) ∧ w8.cell? ⟨w.heap.size, 6, none⟩ = some (.bool q.c.r) ∧ w8.cell? ⟨w.heap.size, 7, none⟩ = some (.bool q.c.b) ∧ w8.cell? ⟨w.heap.size, 8, none⟩ = some (.int .i64 q.d.k) ∧ w8.cell? ⟨w.heap.size, 9, none⟩ = some (.int .i64 q.d.a) ∧ w8.cell? ⟨w.heap.size, 10, none⟩ = some (.int .i64 q.d.x) ∧ w8.cell? ⟨w.heap.size, 11, none⟩ = some (.int .i64 q.d.y) ∧ w8.cell? ⟨w.heap.size, 12, none⟩ = some (.bool q.d.r) ∧ w8.cell? ⟨w.heap.size, 13, none⟩ = some (.bool q.d.b) := ak_cells ⟨a6.bk.up u8⟩; clear ht)
      | (go_at_call 16; refine (update_any (HT.out.p.up v4) q.a (lcP q.c) (lcP_lt _) HS.out HL.out).mono ?_; rintro e w6 ⟨rfl, hN6⟩; obtain ⟨T1, st6, s6, U6⟩ := (HT.out.up v4).pcall hN6; have a6 : AkB w6 w.heap.size q := ⟨U6.bk (a1.bk.up v4) HX1.out⟩; have HU6 : Hid (St _ _ _ _ _ _ _ _ _ _) := st6; have k6 : w6.cell? ⟨w.heap.size, 1, none⟩ = some (.int .i64 q.a) ∧ w6.cell? ⟨w.heap.size, 2, none⟩ = some (.int .i64 q.c.k) ∧ w6.cell? ⟨w.heap.size, 3, none⟩ = some (.int .i64 q.c.a) ∧ w6.cell? ⟨w.heap.size, 4, none⟩ = some (.int .i64 q.c.x) ∧ w6.cell? ⟨w.heap.size, 5, none⟩ = some (.int .i64 q.c.y) ∧ w6.cell? ⟨w.heap.size, 6, none⟩ = some (.bool q.c.r) ∧ w6.cell? ⟨w.heap.size, 7, none⟩ = some (.bool q.c.b) ∧ w6.cell? ⟨w.heap.size, 8, none⟩ = some (.int .i64 q.d.k) ∧ w6.cell? ⟨w.heap.size, 9, none⟩ = some (.int .i64 q.d.a) ∧ w6.cell? ⟨w.heap.size, 10, none⟩ = some (.int .i64 q.d.x) ∧ w6.cell? ⟨w.heap.size, 11, none⟩ = some (.int .i64 q.d.y) ∧ w6.cell? ⟨w.heap.size, 12, none⟩ = some (.bool q.d.r) ∧ w6.cell? ⟨w.heap.size, 13, none⟩ = some (.bool q.d.b) := ak_cells a6; clear st6 s6 U6 hN6)
      | (go_at_call 15; refine (c_any ⟨_, _, _, _, _, _⟩ _).mono ?_; rintro e w4 ⟨rfl, u4⟩; have v4 : Below w'.heap.size w' w4 := Below.thn (Below.refl w'.heap.size w').drew u4; have k4 : w4.cell? ⟨w.heap.size, 1, none⟩ = some (.int .i64 q.a) ∧ w4.cell? ⟨w.heap.size, 2, none⟩ = some (.int .i64 q.c.k) ∧ w4.cell? ⟨w.heap.size, 3, none⟩ = some (.int .i64 q.c.a) ∧ w4.cell? ⟨w.heap.size, 4, none⟩ = some (.int .i64 q.c.x) ∧ w4.cell? ⟨w.heap.size, 5, none⟩ = some (.int .i64 q.c.y) ∧ w4.cell? ⟨w.heap.size, 6, none⟩ = some (.bool q.c.r) ∧ w4.cell? ⟨w.heap.size, 7, none⟩ = some (.bool q.c.b) ∧ w4.cell? ⟨w.heap.size, 8, none⟩ = some (.int .i64 q.d.k) ∧ w4.cell? ⟨w.heap.size, 9, none⟩ = some (.int .i64 q.d.a) ∧ w4.cell? ⟨w.heap.size, 10, none⟩ = some (.int .i64 q.d.x) ∧ w4.cell? ⟨w.heap.size, 11, none⟩ = some (.int .i64 q.d.y) ∧ w4.cell? ⟨w.heap.size, 12, none⟩ = some (.bool q.d.r) ∧ w4.cell? ⟨w.heap.size, 13, none⟩ = some (.bool q.d.b) := ak_cells ⟨a1.bk.up v4⟩))
  all_goals
    clear k0 k4 k6 k8 k9 c0 c1
    go_wp2
    go_ret
    exact ⟨by simp, _, _, _, HU9.out, sz_upd HS.out _ _, ok_upd HO.out _ _⟩
theorem step_any {w : World} {S1 S2 : Nat → Prop} {bh bm n : Nat} {H : Hm} (st : St w w S1 S2 S1 S2 bh bm H H) (hsz : Sz n H) (hok : OkH H) (hl : n < 1260000000000) (q : Ak) :
    Calls Try.prog 9 #[.pointer (some ⟨bh, 0, none⟩), .pointer (some ⟨bm, 0, none⟩), akV q] w fun e w' => e = .returned (.bool true) ∧ StepP w w' S1 S2 bh bm n := by
  obtain ⟨i, hi, hin⟩ := into_all q.k
  have h7 : i = 0 ∨ i = 1 ∨ i = 2 ∨ i = 3 ∨ i = 4 ∨ i = 5 ∨ i = 6 := by omega
  rcases h7 with rfl | rfl | rfl | rfl | rfl | rfl | rfl
  · exact step0 st hsz hok hl q hin
  · exact step1 st hsz hok hl q hin
  · exact step2 st hsz hok hl q hin
  · exact step3 st hsz hok hl q hin
  · exact step4 st hsz hok hl q hin
  · exact step5 st hsz hok hl q hin
  · exact step6 st hsz hok hl q hin
end Go.Proofs.Ytdbnlgjpfkfnjaa
