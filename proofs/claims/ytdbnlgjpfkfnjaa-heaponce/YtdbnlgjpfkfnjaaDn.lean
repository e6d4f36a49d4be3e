/-
  The calls whose answers the document fixes.
-/
import Derived.Test.YtdbnlgjpfkfnjaaDm
namespace Go.Proofs.Ytdbnlgjpfkfnjaa
open Go.RowKit
open Go.Lib
set_option maxRecDepth 100000

theorem HpN.ex {tH tP : TypeId} {S : Nat → Prop} {w w' : World} {b : Nat} {H : Hm} (h : HpN tH tP S w w' b H) : ButS S w w' ∧ ∃ S' : Nat → Prop, (∀ k, S' k → S k ∨ w.heap.size ≤ k) ∧ HpW tH tP S' w' b H :=
  ⟨h.1, _, fun _ hk => hk.imp id fun h' => h'.1, h.2⟩
theorem ButS.toB {S : Nat → Prop} {w0 w w' : World} (h : ButS S w w') (hb : Below w0.heap.size w0 w) (hs : ∀ k, S k → w0.heap.size ≤ k) : Below w0.heap.size w0 w' :=
  hb.trans (h.toBelow hb.size hs)

def H1 : Hm := ⟨[⟨1, 7, cl0⟩], [], 1, 0⟩
def H2 : Hm := ⟨[⟨2, 0, cl0⟩], [], 1, 0⟩
def H3 : Hm := ⟨[⟨2, 0, cl0⟩], [(⟨1, (4607182418800017408, 0), false, 0⟩, ⟨5, (0, 0), false, 0⟩)], 1, 0⟩
def H4 : Hm := ⟨[⟨3, 0, ⟨4, (0, 0), false, 0⟩⟩], [(⟨1, (4607182418800017408, 0), false, 0⟩, ⟨5, (0, 0), false, 0⟩)], 1, 1⟩
theorem e12 : enterP H1 0 = ((⟨1, 7, cl0⟩, 0), H2) := rfl
theorem e22 : enterP H2 0 = ((nd0, 53), H2) := rfl
theorem vc_one : vc 4607182418800017408 0 = true := by
  have h : fl 1 = 4607182418800017408 := by decide
  unfold vc
  rw [← h, vp_fl 1 (by decide), ← fl_zero, vp_fl 0 (by decide)]
  rfl
theorem z00 : zeroV (0, 0) = true := by rw [zeroV_eq]; rfl
theorem p23 : pairP H2 ⟨1, (4607182418800017408, 0), false, 0⟩ ⟨5, (0, 0), false, 0⟩ = ((0, 0), H3) := by
  have h1 : isC H2.ns.length H2.ps.length ⟨1, (4607182418800017408, 0), false, 0⟩ = true := by
    unfold isC
    dsimp only
    rw [if_pos rfl, vc_one]
    rfl
  have h2 : isC H2.ns.length H2.ps.length ⟨5, (0, 0), false, 0⟩ = true := by
    unfold isC
    dsimp only
    rw [if_neg (by decide), if_neg (by decide), if_neg (by decide), if_neg (by decide), if_pos rfl, z00]
    rfl
  unfold pairP
  rw [h1, h2]
  rfl
theorem u34 : updP H3 0 ⟨4, (0, 0), false, 0⟩ = (0, H4) := by
  have h2 : isC H3.ns.length H3.ps.length ⟨4, (0, 0), false, 0⟩ = true := by
    unfold isC
    dsimp only
    rw [if_neg (by decide), if_neg (by decide), if_neg (by decide), if_pos rfl, z00]
    rfl
  unfold updP
  rw [h2]
  rfl
theorem l44 : lookP H4 0 = (⟨3, 0, ⟨4, (0, 0), false, 0⟩⟩, 0) := rfl

set_option maxHeartbeats 4000000 in
theorem awake13_any (w : World) : Calls Try.prog 7 #[] w fun e w' => e = .returned (.bool true) ∧ Below w.heap.size w w' := by
  go_enter Try.func7, Try.ntmps7
  go_wp2_with fail
  refine (new_any w).mono ?_
  rintro e w1 ⟨rfl, hw1⟩
  have h1 : HpW 73 87 (· = w.heap.size) w1 w.heap.size hm0 := by rw [hw1]; exact hpNew
  have b1 : Below w.heap.size w w1 := by rw [hw1]; exact below_alloc _ _
  obtain ⟨S1, h1, q1⟩ : ∃ S1 : Nat → Prop, HpW 73 87 S1 w1 w.heap.size hm0 ∧ ∀ k, S1 k → w.heap.size ≤ k := ⟨_, h1, fun k e => Nat.le_of_eq e.symm⟩
  clear hw1
  have hc2 := delay_any h1 7 (k := 0) ⟨Nat.le_refl _, Nat.le_refl _, Nat.le_refl _, Nat.le_refl _⟩ (by decide)
  rw [show ((hm0.ns.length : Nat) : Int) = 0 from rfl] at hc2
  try dsimp only at hc2
  have HK1 : Hid (HpW 73 87 S1 w1 w.heap.size _) := h1
  clear h1
  go_wp2_with fail
  refine hc2.mono ?_
  rintro e w2 ⟨rfl, hN2⟩
  obtain ⟨U2, S2, s2, h2⟩ := hN2.ex
  have h2 : HpW 73 87 S2 w2 w.heap.size H1 := h2
  have b2 := U2.toB b1 q1
  have q2 : ∀ k, S2 k → w.heap.size ≤ k := fun k e => (s2 k e).elim (q1 k) fun h => Nat.le_trans b1.size h
  have z2 := U2.size
  clear hc2 hN2 HK1 s2 U2 q1 b1 z2
  have hc3 := enter_any h2 0
  rw [e12] at hc3
  try dsimp only at hc3
  have HK2 : Hid (HpW 73 87 S2 w2 w.heap.size _) := h2
  clear h2
  go_wp2_with fail
  refine hc3.mono ?_
  rintro e w3 ⟨rfl, hN3⟩
  obtain ⟨U3, S3, s3, h3⟩ := hN3.ex
  have h3 : HpW 73 87 S3 w3 w.heap.size H2 := h3
  have b3 := U3.toB b2 q2
  have q3 : ∀ k, S3 k → w.heap.size ≤ k := fun k e => (s3 k e).elim (q2 k) fun h => Nat.le_trans b2.size h
  have z3 := U3.size
  clear hc3 hN3 HK2 s3 U3 q2 b2 z3
  have hZ4 : Bk (w3.alloc (.cells #[.int .i64 0, .int .i64 0, .int .i64 0, .complex .f64 0 0, .bool false, .int .i64 0] 60)) w3.heap.size 60 (ndC nd0) := Bk.new w3 60 #[.int .i64 0, .int .i64 0, .int .i64 0, .complex .f64 0 0, .bool false, .int .i64 0]
  have HK3 : Hid (HpW 73 87 S3 w3 w.heap.size _) := h3
  clear h3
  go_upto_region 6 with (refine wpList_storeN rfl 60 (.tmp 4) (.tmp 26) rfl w3.heap.size 0 (ndC ⟨1, 7, cl0⟩) rfl rfl hZ4 (Nat.le_refl 6) Try.infoNd (ndC_one _) ?_; intro w4 nn_4 hO4)
  rw [over_nd] at nn_4
  have u4 := below_alloc w3 (.cells #[.int .i64 0, .int .i64 0, .int .i64 0, .complex .f64 0 0, .bool false, .int .i64 0] 60)
  have x4 : ¬ S3 w3.heap.size := fun e => absurd (HK3.out.lt _ e) (by omega)
  have h4 := (HK3.out.up u4).oth hO4 x4
  have b4 := (Below.thn b3 u4).trans (hO4.below b3.size)
  have q4 := q3
  have nonn_4 := x4
  have l4 := nn_4.lt
  clear hZ4 HK3 u4 hO4 x4 q3 b3
  have hc5 := enter_any h4 0
  rw [e22] at hc5
  try dsimp only at hc5
  have HK4 : Hid (HpW 73 87 S3 w4 w.heap.size _) := h4
  clear h4
  go_wp2_with fail
  refine hc5.mono ?_
  rintro e w5 ⟨rfl, hN5⟩
  obtain ⟨U5, S5, s5, h5⟩ := hN5.ex
  have h5 : HpW 73 87 S5 w5 w.heap.size H2 := h5
  have b5 := U5.toB b4 q4
  have q5 : ∀ k, S5 k → w.heap.size ≤ k := fun k e => (s5 k e).elim (q4 k) fun h => Nat.le_trans b4.size h
  have z5 := U5.size
  have nn_5 := U5.bk nn_4 (nonn_4)
  have nonn_5 : ¬ S5 w3.heap.size := fun e => (s5 _ e).elim nonn_4 fun h => by have := nn_4.lt; omega
  clear hc5 hN5 HK4 s5 U5 q4 b4 z5 nn_4 nonn_4
  have hZ6 : Bk (w5.alloc (.cells #[.int .i64 0, .int .i64 0, .int .i64 0, .complex .f64 0 0, .bool false, .int .i64 0] 60)) w5.heap.size 60 (ndC nd0) := Bk.new w5 60 #[.int .i64 0, .int .i64 0, .int .i64 0, .complex .f64 0 0, .bool false, .int .i64 0]
  have HK5 : Hid (HpW 73 87 S5 w5 w.heap.size _) := h5
  clear h5
  go_upto_region 7 with (refine wpList_storeN rfl 60 (.tmp 6) (.tmp 31) rfl w5.heap.size 0 (ndC nd0) rfl rfl hZ6 (Nat.le_refl 6) Try.infoNd (ndC_one _) ?_; intro w6 nb_6 hO6)
  rw [over_nd] at nb_6
  have u6 := below_alloc w5 (.cells #[.int .i64 0, .int .i64 0, .int .i64 0, .complex .f64 0 0, .bool false, .int .i64 0] 60)
  have x6 : ¬ S5 w5.heap.size := fun e => absurd (HK5.out.lt _ e) (by omega)
  have h6 := (HK5.out.up u6).oth hO6 x6
  have b6 := (Below.thn b5 u6).trans (hO6.below b5.size)
  have q6 := q5
  have nonb_6 := x6
  have l6 := nb_6.lt
  have nn_6 := (nn_5.up u6).oth hO6 (by have := nn_5.lt; omega)
  have nonn_6 := nonn_5
  clear hZ6 HK5 u6 hO6 x6 q5 b5 nn_5 nonn_5
  have hc7 := pair_any h6 ⟨1, (4607182418800017408, 0), false, 0⟩ ⟨5, (0, 0), false, 0⟩ ⟨by decide, by decide⟩ ⟨by decide, by decide⟩ (k := 1) ⟨Nat.le_refl _, by decide, Nat.le_refl _, by decide⟩ (by decide)
  rw [p23] at hc7
  try dsimp only at hc7
  have HK6 : Hid (HpW 73 87 S5 w6 w.heap.size _) := h6
  clear h6
  go_wp2_with fail
  refine hc7.mono ?_
  rintro e w7 ⟨rfl, hN7⟩
  obtain ⟨U7, S7, s7, h7⟩ := hN7.ex
  have h7 : HpW 73 87 S7 w7 w.heap.size H3 := h7
  have b7 := U7.toB b6 q6
  have q7 : ∀ k, S7 k → w.heap.size ≤ k := fun k e => (s7 k e).elim (q6 k) fun h => Nat.le_trans b6.size h
  have z7 := U7.size
  have nn_7 := U7.bk nn_6 (nonn_6)
  have nonn_7 : ¬ S7 w3.heap.size := fun e => (s7 _ e).elim nonn_6 fun h => by have := nn_6.lt; omega
  have nb_7 := U7.bk nb_6 (nonb_6)
  have nonb_7 : ¬ S7 w5.heap.size := fun e => (s7 _ e).elim nonb_6 fun h => by have := nb_6.lt; omega
  clear hc7 hN7 HK6 s7 U7 q6 b6 z7 nn_6 nonn_6 nb_6 nonb_6
  have hc8 := update_any h7 0 ⟨4, (0, 0), false, 0⟩ ⟨by decide, by decide⟩ (k := 1) ⟨Nat.le_refl _, Nat.le_refl _, Nat.le_refl _, by decide⟩ (by decide)
  rw [u34] at hc8
  try dsimp only at hc8
  have HK7 : Hid (HpW 73 87 S7 w7 w.heap.size _) := h7
  clear h7
  go_wp2_with fail
  refine hc8.mono ?_
  rintro e w8 ⟨rfl, hN8⟩
  obtain ⟨U8, S8, s8, h8⟩ := hN8.ex
  have h8 : HpW 73 87 S8 w8 w.heap.size H4 := h8
  have b8 := U8.toB b7 q7
  have q8 : ∀ k, S8 k → w.heap.size ≤ k := fun k e => (s8 k e).elim (q7 k) fun h => Nat.le_trans b7.size h
  have z8 := U8.size
  have nn_8 := U8.bk nn_7 (nonn_7)
  have nonn_8 : ¬ S8 w3.heap.size := fun e => (s8 _ e).elim nonn_7 fun h => by have := nn_7.lt; omega
  have nb_8 := U8.bk nb_7 (nonb_7)
  have nonb_8 : ¬ S8 w5.heap.size := fun e => (s8 _ e).elim nonb_7 fun h => by have := nb_7.lt; omega
  clear hc8 hN8 HK7 s8 U8 q7 b7 z8 nn_7 nonn_7 nb_7 nonb_7
  have hc9 := look_any h8 0
  rw [l44] at hc9
  try dsimp only at hc9
  have HK8 : Hid (HpW 73 87 S8 w8 w.heap.size _) := h8
  clear h8
  go_wp2_with fail
  refine hc9.mono ?_
  rintro e w9 ⟨rfl, u9⟩
  have h9 := HK8.out.up u9
  have b9 := Below.thn b8 u9
  have q9 := q8
  have nn_9 := nn_8.up u9
  have nonn_9 := nonn_8
  have nb_9 := nb_8.up u9
  have nonb_9 := nonb_8
  clear hc9 HK8 u9 q8 b8 nn_8 nonn_8 nb_8 nonb_8
  have hZ10 : Bk (w9.alloc (.cells #[.int .i64 0, .int .i64 0, .int .i64 0, .complex .f64 0 0, .bool false, .int .i64 0] 60)) w9.heap.size 60 (ndC nd0) := Bk.new w9 60 #[.int .i64 0, .int .i64 0, .int .i64 0, .complex .f64 0 0, .bool false, .int .i64 0]
  have HK9 : Hid (HpW 73 87 S8 w9 w.heap.size _) := h9
  clear h9
  go_upto_region 10 with (refine wpList_storeN rfl 60 (.tmp 11) (.tmp 46) rfl w9.heap.size 0 (ndC ⟨3, 0, ⟨4, (0, 0), false, 0⟩⟩) rfl rfl hZ10 (Nat.le_refl 6) Try.infoNd (ndC_one _) ?_; intro w10 nm_10 hO10)
  rw [over_nd] at nm_10
  have u10 := below_alloc w9 (.cells #[.int .i64 0, .int .i64 0, .int .i64 0, .complex .f64 0 0, .bool false, .int .i64 0] 60)
  have x10 : ¬ S8 w9.heap.size := fun e => absurd (HK9.out.lt _ e) (by omega)
  have h10 := (HK9.out.up u10).oth hO10 x10
  have b10 := (Below.thn b9 u10).trans (hO10.below b9.size)
  have q10 := q9
  have nonm_10 := x10
  have l10 := nm_10.lt
  have nn_10 := (nn_9.up u10).oth hO10 (by have := nn_9.lt; omega)
  have nonn_10 := nonn_9
  have nb_10 := (nb_9.up u10).oth hO10 (by have := nb_9.lt; omega)
  have nonb_10 := nonb_9
  clear hZ10 HK9 u10 hO10 x10 q9 b9 nn_9 nonn_9 nb_9 nonb_9
  have hc11 := counts_any h10
  rw [show ((H4.th : Nat) : Int) = 1 from rfl, show ((H4.up : Nat) : Int) = 1 from rfl] at hc11
  try dsimp only at hc11
  have HK10 : Hid (HpW 73 87 S8 w10 w.heap.size _) := h10
  clear h10
  go_wp2_with fail
  refine hc11.mono ?_
  rintro e w11 ⟨rfl, u11⟩
  have h11 := HK10.out.up u11
  have b11 := Below.thn b10 u11
  have q11 := q10
  have nn_11 := nn_10.up u11
  have nonn_11 := nonn_10
  have nb_11 := nb_10.up u11
  have nonb_11 := nonb_10
  have nm_11 := nm_10.up u11
  have nonm_11 := nonm_10
  clear hc11 HK10 u11 q10 b10 nn_10 nonn_10 nb_10 nonb_10 nm_10 nonm_10
  obtain ⟨y0, y1, y2, y3, y4, y5⟩ := bk_nd nn_11
  obtain ⟨x0, x1, x2, x3, x4, x5⟩ := bk_nd nm_11
  have lm := nm_11.lt
  have ha := alike_any ⟨1, 7, cl0⟩ ⟨1, 7, cl0⟩ w11
  rw [alikeN_refl vc_zero] at ha
  clear h11 nn_11 nm_11 nb_11 nonn_11 nonm_11 nonb_11 q11
  go_wp2_with (go_at_call 22; refine ha.mono ?_; rintro e w12 ⟨rfl, u12⟩; have x0' : w12.cell? ⟨w9.heap.size, 0, none⟩ = some (.int .i64 3) := (u12.cell (p := ⟨w9.heap.size, 0, none⟩) lm).trans x0)
  go_ret
  exact ⟨rfl, Below.thn b11 u12⟩
end Go.Proofs.Ytdbnlgjpfkfnjaa
