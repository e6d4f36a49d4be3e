/-
  The walk of ValueKeep.
-/
import Derived.Test.YtbgggbkmnfppoaaGreatDoorZh
import Derived.Test.YtbgggbkmnfppoaaGreatDoorVu
import Derived.Test.YtbgggbkmnfppoaaGreatDoorVy
import Derived.BigQuiet
namespace Go.Proofs.YtbgggbkmnfppoaaGreatDoor
open Go.RowKit
set_option maxRecDepth 100000

theorem own_nilZ (w : World) : OwZ (w.alloc (.cells #[] 32)) w.heap.size (.slice (some ⟨w.heap.size, 0, none⟩) 0 0) [] :=
  ⟨rfl, .inr ⟨w.heap.size, 0, #[], rfl, Nat.le_refl _, heap_alloc_new w _, Nat.le_refl _, Nat.zero_le _, rfl, rfl⟩⟩
abbrev c7 : Wz := (4619567317775286272, 0)
abbrev c8 : Wz := (4620693217682128896, 0)
def tl12 : List UInt8 := [32, 91, 49, 32, 50, 93]

/-- What is left of the first answer's row of values. -/
def Rs (w0 : World) (g n j : Nat) (wx : World) : Prop := (∃ vs, Bk wx g 35 vs) ∧ ∀ t, j * 4 ≤ t → t < n * 4 → wx.cell? ⟨g, t, none⟩ = w0.cell? ⟨g, t, none⟩
theorem Rs.oth {w0 wx wy : World} {g b n j : Nat} (h : Rs w0 g n j wx) (ho : Oth b wx wy) (hb : g ≠ b) : Rs w0 g n j wy :=
  ⟨h.1.elim fun vs hv => ⟨vs, hv.oth ho hb⟩, fun t h1 h2 => (ho.cell (a := ⟨g, t, none⟩) hb).trans (h.2 t h1 h2)⟩
theorem Rs.set {w0 wx : World} {g n j : Nat} (h : Rs w0 g n j wx) (v : Value) : Rs w0 g n (j + 1) (wx.setCell ⟨g, j * 4 + 3, none⟩ v) := by
  obtain ⟨vs, hv⟩ := h.1
  refine ⟨⟨_, hv.set (j * 4 + 3) v⟩, fun t h1 h2 => ?_⟩
  rw [← h.2 t (by omega) h2, (hv.set (j * 4 + 3) v).cell, hv.cell, List.getElem?_set_ne (by omega)]
theorem Rs.same {w0 wx wy : World} {g n j : Nat} (h : Rs w0 g n j wx) (hs : ∀ b vs, Bk wx b 35 vs → Bk wy b 35 vs) : Rs w0 g n j wy := by
  obtain ⟨vs, hv⟩ := h.1
  have hv2 := hs g vs hv
  exact ⟨⟨vs, hv2⟩, fun t h1 h2 => by rw [← h.2 t h1 h2, hv.cell, hv2.cell]⟩
theorem bk_types {w : World} {g b : Nat} {us vs : List Value} (h : Bk w g 35 us) (k : Bk w b 32 vs) : g ≠ b := by
  intro e
  subst e
  unfold Bk at h k
  rw [h] at k
  simp at k
theorem owns_lt {w : World} {B : Nat} {T : TypeId} {k n : Nat} {v : Value} {xs : List Value} (h : w.ownsRow B T k v n xs) : ∀ j, v.ownBlock = some j → j < w.heap.size := by
  intro j hj
  rcases h.2 with ⟨rfl, _⟩ | ⟨g, cap, cur, rfl, _, h3, _⟩
  · simp [Value.ownBlock] at hj
  · simp only [Value.ownBlock, Option.some.injEq] at hj
    subst hj
    exact heap_lt h3

set_option maxHeartbeats 2000000 in
theorem valueKeep_any (qa : Qv) (l : List UInt8) (a1 : Option Addr) (k1 : Nat) (w : World) (hE : Env w) (h1 : Qr w a1 qa) (hl : l.length ≤ 2000000) (hn1 : qa.l.length ≤ 4194304) :
    Calls Tryz.prog 7 #[qV a1 k1 qa, .string (bs l)] w fun e w' => e = .returned (.bool true) ∧ Below w.heap.size w w' := by
  have b0 := below_alloc w (qObj a1 k1 qa)
  have m1 : Q6 _ w.heap.size a1 k1 qa := Bk.new w 26 #[.int .i64 qa.t, .int .i64 qa.z.x, .int .i64 qa.z.y, .bool qa.z.r, .bool qa.b, .slice a1 qa.l.length k1]
  have q1 := h1.up b0
  have hE0 := env_keep hE b0
  have hV1 := fun W (hW : Qr W a1 qa) => valVo_any qa a1 k1 W hW.l hW.n
  obtain ⟨n, hnn⟩ : ∃ n, Hid (n = qa.l.length) := ⟨_, rfl⟩
  obtain ⟨r, hr⟩ : ∃ r, Hid (r = qa.rv) := ⟨_, rfl⟩
  have hrn : r.zs.length = n := by rw [hr.out, hnn.out]; simp [Qv.rv]
  have hck : ∀ x y W, Vr W x r → Calls Tryz.prog 13 #[.agg #[.int .i64 r.t, .complex .f64 r.z.1 r.z.2, .bool r.r, .slice x n y]] W fun e w' => (∃ k, e = .returned (.int .i64 k)) ∧ Below W.heap.size W w' := by
    intro x y W hv
    have := check_any r x y W hv.z hv.l hv.n
    unfold vV at this
    rw [hrn] at this
    exact this.mono fun e w' h => ⟨⟨_, h.1⟩, h.2⟩
  have htx : ∀ x y W, Tab W → Vr W x r → Calls Tryz.prog 9 #[.agg #[.int .i64 r.t, .complex .f64 r.z.1 r.z.2, .bool r.r, .slice x n y]] W fun e w' => (∃ s k, e = .returned (.tuple #[.string s, .int .i64 k])) ∧ Below W.heap.size W w' := by
    intro x y W hT hv
    have := text_any r x y W hT hv
    unfold vV at this
    rw [hrn] at this
    exact this.mono fun e w' h => ⟨by obtain ⟨s, k, e1, _⟩ := h.1; exact ⟨_, _, e1⟩, h.2⟩
  have hsm : ∀ x y W, Vr W x r → Calls Tryz.prog 14 #[.agg #[.int .i64 r.t, .complex .f64 r.z.1 r.z.2, .bool r.r, .slice x n y], .agg #[.int .i64 r.t, .complex .f64 r.z.1 r.z.2, .bool r.r, .slice x n y]] W fun e w' => (∃ k, e = .returned (.bool k)) ∧ Below W.heap.size W w' := by
    intro x y W hv
    have := same_any r r x x y y W hv hv
    unfold vV at this
    rw [hrn] at this
    exact this.mono fun e w' h => ⟨⟨_, h.1⟩, h.2⟩
  have HRN : Hid (r.zs.length = n) := hrn
  unfold qV qObj at *
  rw [← hnn.out] at m1 hn1 hE0 q1 b0 hV1 ⊢
  generalize hW0 : (w.alloc (.cells #[.int .i64 qa.t, .int .i64 qa.z.x, .int .i64 qa.z.y, .bool qa.z.r, .bool qa.b, .slice a1 n k1] 26)) = W0 at *
  go_enter Tryz.func7, Tryz.ntmps7
  go_wp2_with fail
  refine (awake9_any _ hE0).mono ?_
  rintro e w1 ⟨rfl, B1⟩
  clear hW0 hrn
  have m2 : Bk W0 w.heap.size 26 [.int .i64 qa.t, .int .i64 qa.z.x, .int .i64 qa.z.y, .bool qa.z.r, .bool qa.b, .slice a1 n k1] := by
    have := m1
    unfold Q6 at this
    rw [← hnn.out] at this
    exact this
  have M1 := m2.up B1
  have p0 := M1.cell 0
  have p1 := M1.cell 1
  have p2 := M1.cell 2
  have p3 := M1.cell 3
  have p4 := M1.cell 4
  have p5 := M1.cell 5
  simp only [List.getElem?_cons_zero, List.getElem?_cons_succ] at p0 p1 p2 p3 p4 p5
  go_wp2_with fail
  refine (hV1 _ (q1.up B1)).mono ?_
  rintro e w2 ⟨x2, y2, rfl, vr2, ow2, hb2⟩
  have B2 := Below.thn B1 hb2
  clear p0 p1 p2 p3 p4 p5 hV1
  rw [← hr.out] at vr2 ow2 ⊢
  unfold vV
  rw [HRN.out] at ow2 ⊢
  have hZ := Bk.new w2 35 #[.int .i64 0, .complex .f64 0 0, .bool false, .slice none 0 0]
  have s12 := hb2.size
  have hvr := fun x W (hz : Zr W x r.zs) => (⟨vr2.z, hz, vr2.n⟩ : Vr W x r)
  have OW2 : Hid (OwZ w2 w1.heap.size (.slice x2 r.zs.length y2) r.zs) := by rw [HRN.out]; exact ow2
  clear ow2
  go_upto_region 4 with (refine wpList_storeN rfl 35 (.tmp 5) (.tmp 21) rfl w2.heap.size 0 [.int .i64 r.t, .complex .f64 r.z.1 r.z.2, .bool r.r, .slice x2 n y2] rfl rfl hZ (Nat.le_refl 4) Tryz.infoV (one4 _ _ _ _ _ _ _) ?_; intro w3 hB3 hO3)
  clear hZ
  have b23 : Below w2.heap.size w2 w3 := (below_alloc w2 _).trans (hO3.below (Nat.le_refl _))
  have B3 := Below.thn B2 b23
  clear hO3
  have b34 := below_alloc w3 (.cells #[] 32)
  have c3 : (w3.alloc (.cells #[] 32)).cell? ⟨w2.heap.size, 3, none⟩ = some (.slice x2 n y2) := (hB3.up b34).cell 3
  have s23 := b23.size
  obtain ⟨v4, w4, r4, o4, b4⟩ := own_appO (w3.alloc (.cells #[] 32)) w3.heap.size w1.heap.size _ [] (own_nilZ w3) (by simp) x2 y2 r.zs (owns_up (owns_up OW2.out b23) b34) (by rw [HRN.out]; simp; omega)
  rw [HRN.out] at r4
  have R4 : Hid (_ = _) := r4
  have B4 := b34.trans b4
  have s34 := B4.size
  have b45 := below_alloc w4 (.cells #[.complex .f64 4619567317775286272 0, .complex .f64 4620693217682128896 0] 32)
  have hN5 := Bk.new w4 32 #[.complex .f64 4619567317775286272 0, .complex .f64 4620693217682128896 0]
  obtain ⟨v5, w5, r5, o5, b5⟩ := own_appZ (w4.alloc (.cells #[.complex .f64 4619567317775286272 0, .complex .f64 4620693217682128896 0] 32)) w3.heap.size v4 ([] ++ r.zs) (owns_up o4 b45) (by simp; omega) ⟨w4.heap.size, 0, none⟩ 2 [c7, c8] (by
    intro t ht
    rw [Addr.add_mid, Nat.zero_add, hN5.cell]
    have : t = 0 ∨ t = 1 := by simp at ht; omega
    rcases this with rfl | rfl <;> rfl) (by rw [List.nil_append, HRN.out]; simp; omega)
  rw [show [c7, c8].length = 2 from rfl] at r5
  have R5 : Hid (_ = _) := r5
  have B5 : Below w3.heap.size w3 w5 := (B4.trans (b45.mono s34)).trans b5
  rw [List.nil_append] at o5
  have M5 := M1.up (Below.thn (Below.thn hb2 b23) B5)
  have hP5 := hB3.up B5
  obtain ⟨gf, cf, cur, ev5, hgf, hcur, hcf, _, hcs, htk⟩ : ∃ gf cf cur, v5 = .slice (some ⟨gf, 0, none⟩) (n + 2) cf ∧ w3.heap.size ≤ gf ∧ w5.heap[gf]? = some (.cells cur 32 (0, 0)) ∧ n + 2 ≤ cf ∧ cf ≤ maxLen ∧ cur.size = cf ∧ cur.toList.take (n + 2) = (r.zs ++ [c7, c8]).map cx := by
    have hl2 : (r.zs ++ [c7, c8]).length = n + 2 := by rw [List.length_append, HRN.out]; rfl
    rcases o5.2 with ⟨_, h0⟩ | ⟨gf, cf, cur, h2, h3, h4, h5, h6, h7, h8⟩
    · omega
    · rw [hl2] at h2 h5 h8
      rw [Nat.mul_one] at h7 h8
      exact ⟨gf, cf, cur, h2, h3, h4, h5, h6, h7, h8⟩
  subst ev5
  clear r4 r5 c3
  have c3 : (w3.alloc (.cells #[] 32)).cell? ⟨w2.heap.size, 3, none⟩ = some (.slice x2 n y2) := (hB3.up b34).cell 3
  have HK : Hid (_) := hck
  have HT : Hid (_) := htx
  have HSM : Hid (_) := hsm
  have u5 : w5.cell? ⟨w.heap.size, 5, none⟩ = some (.slice a1 n k1) := M5.cell 5
  have p3 : w5.cell? ⟨w2.heap.size, 3, none⟩ = some (.slice x2 n y2) := hP5.cell 3
  have f3 : w5.frozen? ⟨w2.heap.size, 3, none⟩ = false := hP5.frz 3
  have j1 := fun W => run_slice_hiZ (some ⟨gf, 0, none⟩) (n + 2) cf n (by omega) W gf rfl
  have hZ5 : Zr w5 (some ⟨gf, 0, none⟩) (r.zs ++ [c7, c8]) := by
    refine ⟨fun z hz => ?_, fun _ => ⟨gf, 0, rfl, fun t ht => ?_⟩⟩
    · rcases List.mem_append.1 hz with h | h
      · exact vr2.l.lt z h
      · have : z = c7 ∨ z = c8 := by simpa using h
        rcases this with rfl | rfl <;> exact ⟨by decide, by decide⟩
    · have := o5.cells (g := gf) rfl t (cx ((r.zs ++ [c7, c8]).getD t (0, 0))) (by rw [List.getElem?_map, List.getElem?_eq_getElem ht, List.getD_eq_getElem?_getD, List.getElem?_eq_getElem ht]; rfl)
      rw [Nat.zero_add]
      rw [Addr.add_mid, Nat.zero_add] at this
      exact this
  have hPG : gf ≠ w2.heap.size := by have := hB3.lt; omega
  have hP6 := hP5.set 3 (.slice (some ⟨gf, 0, none⟩) n cf)
  have hO6 := (Oth.refl w2.heap.size w5).set 3 (.slice (some ⟨gf, 0, none⟩) n cf)
  obtain ⟨w6, hw6⟩ : ∃ w6, w6 = w5.setCell ⟨w2.heap.size, 3, none⟩ (.slice (some ⟨gf, 0, none⟩) n cf) := ⟨_, rfl⟩
  rw [← hw6] at hP6 hO6
  have hZ6 : Zr w6 (some ⟨gf, 0, none⟩) (r.zs ++ [c7, c8]) := by
    refine ⟨hZ5.lt, fun hn => ?_⟩
    obtain ⟨b, off, e, hc⟩ := hZ5.pl hn
    refine ⟨b, off, e, fun t ht => ?_⟩
    cases e
    exact (hO6.cell hPG).trans (hc t ht)
  have B6 : Below W0.heap.size W0 w6 := by
    have h5 := Below.thn B3 B5
    have := hO6.below (B := W0.heap.size) B2.size
    exact h5.trans this
  have M6 : Bk w6 w.heap.size 26 [.int .i64 qa.t, .int .i64 qa.z.x, .int .i64 qa.z.y, .bool qa.z.r, .bool qa.b, .slice a1 n k1] := m2.up B6
  have hZn : Zr w6 (some ⟨gf, 0, none⟩) r.zs := by
    refine ⟨vr2.l.lt, fun _ => ?_⟩
    obtain ⟨b, off, e, hc⟩ := hZ6.pl (by simp)
    refine ⟨b, off, e, fun t ht => ?_⟩
    have := hc t (by rw [List.length_append]; omega)
    rw [List.getD_eq_getElem?_getD, List.getElem?_append_left ht, ← List.getD_eq_getElem?_getD] at this
    exact this
  have V6 := hvr _ _ hZn
  have l0 : w6.cell? ⟨w2.heap.size, 0, none⟩ = some (.int .i64 r.t) := hP6.cell 0
  have l1 : w6.cell? ⟨w2.heap.size, 1, none⟩ = some (.complex .f64 r.z.1 r.z.2) := hP6.cell 1
  have l2 : w6.cell? ⟨w2.heap.size, 2, none⟩ = some (.bool r.r) := hP6.cell 2
  have l3 : w6.cell? ⟨w2.heap.size, 3, none⟩ = some (.slice (some ⟨gf, 0, none⟩) n cf) := hP6.cell 3
  clear hck htx hsm o4 b4 b45 hN5 o5 b5 M1 vr2 m1 m2 hO6 hZ5 hP5 hvr
  go_upto_region 6 with (at_builtin; first
    | (refine wpList_append_run rfl (.tmp 22) (.tmp 24) 33 rfl rfl (.slice (some ⟨w3.heap.size, 0, none⟩) 0 0) (.slice x2 n y2) rfl rfl v4 w4 (show _ = _ from R4) ?_)
    | (refine wpList_append_run rfl (.tmp 25) (.tmp 26) 33 rfl rfl v4 (.slice (some ⟨w4.heap.size, 0, none⟩) 2 2) rfl rfl (.slice (some ⟨gf, 0, none⟩) (n + 2) cf) w5 (show _ = _ from R5) ?_))
  rw [← hw6]
  clear hw6 R4 R5 j1 u5 p3 f3 B5 hcur htk hcs cur OW2 hB3 M5 b23 B3 b34 c3 B4 s34 s23 s12 hb2 B2
  go_wp2_with fail
  refine (HK.out _ _ _ V6).mono ?_
  rintro e w7 ⟨⟨k7, rfl⟩, hb7⟩
  have hP7 := hP6.up hb7
  have l0 : w7.cell? ⟨w2.heap.size, 0, none⟩ = some (.int .i64 r.t) := hP7.cell 0
  have l1 : w7.cell? ⟨w2.heap.size, 1, none⟩ = some (.complex .f64 r.z.1 r.z.2) := hP7.cell 1
  have l2 : w7.cell? ⟨w2.heap.size, 2, none⟩ = some (.bool r.r) := hP7.cell 2
  have l3 : w7.cell? ⟨w2.heap.size, 3, none⟩ = some (.slice (some ⟨gf, 0, none⟩) n cf) := hP7.cell 3
  go_wp2_with fail
  refine (HT.out _ _ _ (env_keep hE0 (Below.thn B6 hb7)).tab (V6.up hb7)).mono ?_
  rintro e w8 ⟨⟨s8, k8, rfl⟩, hb8⟩
  have hP8 := hP7.up hb8
  have l0 : w8.cell? ⟨w2.heap.size, 0, none⟩ = some (.int .i64 r.t) := hP8.cell 0
  have l1 : w8.cell? ⟨w2.heap.size, 1, none⟩ = some (.complex .f64 r.z.1 r.z.2) := hP8.cell 1
  have l2 : w8.cell? ⟨w2.heap.size, 2, none⟩ = some (.bool r.r) := hP8.cell 2
  have l3 : w8.cell? ⟨w2.heap.size, 3, none⟩ = some (.slice (some ⟨gf, 0, none⟩) n cf) := hP8.cell 3
  have b68 := Below.thn hb7 hb8
  go_wp2_with fail
  refine (HSM.out _ _ _ (V6.up b68)).mono ?_
  rintro e w9 ⟨⟨k9, rfl⟩, hb9⟩
  have b69 := Below.thn b68 hb9
  have P9 : Hid (_) := hP6.up b69
  have M9 : Hid (_) := M6.up b69
  have Z9 : Hid (_) := hZ6.up b69
  have B9 := Below.thn B6 b69
  have Q9 : Hid (_) := q1.up B9
  clear l0 l1 l2 l3 HK HT HSM hP8 hP7 hP6 hb7 hb8 hb9 b68 V6 hZn hZ6 M6 b69 B6 q1
  go_wp2_with fail
  have hsz := bs_size l
  go_loopw [7] (fun i wx => ∃ k : Nat, k ≤ n ∧ i = .int .i64 k ∧ Below w9.heap.size w9 wx) (fun i _ => n - (RowKit.intOf i).toNat)
  case atStart => exact ⟨0, Nat.zero_le _, rfl, Below.refl _ _⟩
  case round =>
    obtain ⟨k, hk, rfl, hBx⟩ := hrel
    have hPx := (show Bk w9 w2.heap.size 35 [.int .i64 r.t, .complex .f64 r.z.1 r.z.2, .bool r.r, .slice (some ⟨gf, 0, none⟩) n cf] from P9.out).up hBx
    have hMx := (show Bk w9 w.heap.size 26 [.int .i64 qa.t, .int .i64 qa.z.x, .int .i64 qa.z.y, .bool qa.z.r, .bool qa.b, .slice a1 n k1] from M9.out).up hBx
    have hZx := (show Zr w9 (some ⟨gf, 0, none⟩) (r.zs ++ [c7, c8]) from Z9.out).up hBx
    have hQx := (show Qr w9 a1 qa from Q9.out).up hBx
    by_cases hj : k < n
    · have hjl : k < qa.l.length := by rw [← hnn.out]; exact hj
      obtain ⟨b, off, ea, hcl⟩ := hQx.l.pl (by intro e; rw [e] at hjl; simp at hjl)
      obtain ⟨n1, n2, n3⟩ := hcl k hjl
      have hbl := cell_lt n1
      obtain ⟨bz, oz, ez, hcz⟩ := hZx.pl (by simp)
      cases ez
      have z1 := hcz k (by rw [List.length_append, HRN.out]; omega)
      have hzz : (r.zs ++ [c7, c8]).getD k (0, 0) = (qa.l.getD k qn).w := by
        rw [hr.out]
        unfold Qv.rv
        rw [List.getD_eq_getElem?_getD, List.getElem?_append_left (by simpa using hjl), List.getElem?_map, List.getElem?_eq_getElem hjl, List.getD_eq_getElem?_getD, List.getElem?_eq_getElem hjl]
        rfl
      rw [hzz, Nat.zero_add] at z1
      have hzc := fun X => zb_any (qa.l.getD k qn) X
      generalize qa.l.getD k qn = x at *
      generalize x.w = z at *
      have hgl := cell_lt z1
      have p3 : wr.cell? ⟨w2.heap.size, 3, none⟩ = some (.slice (some ⟨gf, 0, none⟩) n cf) := hPx.cell 3
      have u5 : wr.cell? ⟨w.heap.size, 5, none⟩ = some (.slice a1 n k1) := hMx.cell 5
      have hPl := hPx.lt
      subst ea
      clear hcl hcz hzz hQx hZx hMx hPx
      go_wp2_with fail
      refine (hzc _).mono ?_
      rintro e wy ⟨rfl, hby⟩
      have p3 : wy.cell? ⟨w2.heap.size, 3, none⟩ = some (.slice (some ⟨gf, 0, none⟩) n cf) := (hby.cell hPl).trans p3
      have z1 : wy.cell? ⟨gf, k, none⟩ = some (.complex .f64 z.1 z.2) := (hby.cell hgl).trans z1
      have hByx := Below.thn hBx hby
      go_upto_region 13 with fail
      obtain ⟨za, zb'⟩ := z
      cases ho1 : (FloatKind.f64.format.order za za == some Ordering.eq) with
      | true =>
        cases ho2 : (FloatKind.f64.format.order zb' zb' == some Ordering.eq) with
        | true =>
          go_quiet (fail)
          go_wp2_with fail
          go_roundw
          case rel => exact ⟨k + 1, by omega, by go_num, ⟨hByx.os, hByx.tape, hByx.output, hByx.size, hByx.block⟩⟩
          case measure => simp [RowKit.intOf]; omega
        | false =>
          go_quiet (fail)
          go_wp2_with fail
          go_roundw
          case rel => exact ⟨k + 1, by omega, by go_num, ⟨hByx.os, hByx.tape, hByx.output, hByx.size, hByx.block⟩⟩
          case measure => simp [RowKit.intOf]; omega
      | false =>
        go_quiet (fail)
        go_wp2_with fail
        go_roundw
        case rel => exact ⟨k + 1, by omega, by go_num, ⟨hByx.os, hByx.tape, hByx.output, hByx.size, hByx.block⟩⟩
        case measure => simp [RowKit.intOf]; omega
    · have hje : k = n := by omega
      subst hje
      have hs1 := fun W (hW : Env W) => split_any (l ++ tl12) (by rw [List.length_append]; simp only [tl12, List.length_cons, List.length_nil]; omega) W hW
      have hs2 := fun W => rsplit_any (l ++ tl12) (by rw [List.length_append]; simp only [tl12, List.length_cons, List.length_nil]; omega) W
      rw [rspl_spl rdG_rdr _ _ (Nat.le_refl _)] at hs2
      have hbs : bs l ++ ⟨#[32, 91, 49, 32, 50, 93]⟩ = bs (l ++ tl12) := bs_app l tl12
      have p3 : wr.cell? ⟨w2.heap.size, 3, none⟩ = some (.slice (some ⟨gf, 0, none⟩) k cf) := hPx.cell 3
      have HBS : Hid (bs l ++ ⟨#[32, 91, 49, 32, 50, 93]⟩ = bs (l ++ tl12)) := hbs
      have BX := Below.thn B9 hBx
      clear hbs hPx
      obtain ⟨T, hT⟩ : ∃ T, T = l ++ tl12 := ⟨_, rfl⟩
      rw [← hT] at hs1 hs2 HBS
      have hTl : T.length ≤ 2000006 := by rw [hT, List.length_append]; simp only [tl12, List.length_cons, List.length_nil]; omega
      clear hT
      have hs0 : ((bs l).size : Int) = l.length := by rw [hsz]
      go_wp2_with fail
      rw [HBS.out]
      refine (hs1 _ (env_keep hE0 BX)).mono ?_
      rintro e w10 ⟨hsa, hb10⟩
      obtain ⟨v10, its, rfl, hS10, hits⟩ := hsa.ex
      have B10 := Below.thn BX hb10
      clear p3
      go_wp2_with fail
      rw [HBS.out]
      refine (hs1 _ (env_keep hE0 B10)).mono ?_
      rintro e w11 ⟨hsb, hb11⟩
      obtain ⟨v11, its2, rfl, hS11, hits2⟩ := hsb.ex
      have B11 := Below.thn B10 hb11
      have hx11 := Below.thn hb10 hb11
      have HIE : Hid (its.map (·.2.2) = its2.map (·.2.2)) := by show _ = _; rw [hits, hits2]
      have HI2 : Hid (its2.map (·.2.2) = (spl rdG T).getD []) := hits2
      have hlen : its.length = its2.length := by
        have h1 := congrArg List.length HIE.out
        simpa only [List.length_map] using h1
      have hnt : its.length ≤ 2000006 := by
        have h1 := congrArg List.length hits
        rw [List.length_map] at h1
        cases hs : spl rdG T with
        | none =>
          rw [hs] at h1
          have : its.length = 0 := h1
          omega
        | some vs =>
          rw [hs] at h1
          have : its.length = vs.length := h1
          have := spl_len T.length (Nat.le_refl _) hs
          omega
      obtain ⟨ag, cg, eg, hgc, _⟩ := owns_slice hS10.row
      obtain ⟨aw, cw, ew, hwc, _⟩ := owns_slice hS11.row
      subst eg ew
      rw [← hlen]
      have HS1 : Hid (SR w10 wr.heap.size (.slice ag its.length cg) its) := hS10
      have HS2 : Hid (SR w11 w10.heap.size (.slice aw its.length cw) its2) := by rw [hlen]; exact hS11
      have HLE : Hid (its.length = its2.length) := hlen
      obtain ⟨mm, hmm⟩ : ∃ mm, Hid (mm = its.length) := ⟨_, rfl⟩
      rw [← hmm.out] at hnt hgc ⊢
      have u5 : w11.cell? ⟨w.heap.size, 5, none⟩ = some (.slice a1 k k1) := (hMx.up hx11).cell 5
      obtain ⟨bz, oz, ez, hcz⟩ := (hZx.up hx11).pl (by simp)
      cases ez
      have z7 : w11.cell? ⟨gf, k, none⟩ = some (.complex .f64 4619567317775286272 0) := by
        have := hcz k (by rw [List.length_append, HRN.out]; simp)
        rw [Nat.zero_add, List.getD_eq_getElem?_getD, List.getElem?_append_right (by rw [HRN.out]; exact Nat.le_refl _), HRN.out, Nat.sub_self] at this
        exact this
      have z8 : w11.cell? ⟨gf, k + 1, none⟩ = some (.complex .f64 4620693217682128896 0) := by
        have := hcz (k + 1) (by rw [List.length_append, HRN.out]; simp)
        rw [Nat.zero_add, List.getD_eq_getElem?_getD, List.getElem?_append_right (by rw [HRN.out]; exact Nat.le_succ _), HRN.out, Nat.add_sub_cancel_left] at this
        exact this
      have o7 : (FloatKind.f64.format.order 4619567317775286272 4619567317775286272 == some Ordering.eq) = true := by kernel_rfl
      have o8 : (FloatKind.f64.format.order 4620693217682128896 4620693217682128896 == some Ordering.eq) = true := by kernel_rfl
      have o0 : (FloatKind.f64.format.order 0 0 == some Ordering.eq) = true := by kernel_rfl
      have HB : Hid (Below wr.heap.size wr w10 ∧ Below w10.heap.size w10 w11) := ⟨hb10, hb11⟩
      clear hsa hsb hS10 hS11 hits hits2 hlen hb10 hb11 hs1 hcz hMx hZx hQx hx11
      generalize sE (spl rdG T) = se at *
      go_wp2_with fail
      generalize wr = wo at *
      have HG : ∃ g, 0 < mm → (ag = some ⟨g, 0, none⟩ ∧ wo.heap.size ≤ g ∧ g < w10.heap.size ∧ (∃ vs, Bk w11 g 35 vs)) := by
        rcases HS1.out.row.2 with ⟨_, h0⟩ | ⟨g, cap, cur, e, h2, h3, h4⟩
        · exact ⟨0, fun h => by rw [hmm.out] at h; omega⟩
        · simp only [Value.slice.injEq] at e
          exact ⟨g, fun _ => ⟨e.1, h2, heap_lt h3, cur.toList, Bk.up (w := w10) h3 HB.out.2⟩⟩
      obtain ⟨g, hg⟩ := HG
      have HG : Hid (0 < mm → (ag = some ⟨g, 0, none⟩ ∧ wo.heap.size ≤ g ∧ g < w10.heap.size ∧ (∃ vs, Bk w11 g 35 vs))) := hg
      clear hg u5 z7 z8
      go_loopw [13] (fun i wx => ∃ j : Nat, j ≤ mm ∧ i = .int .i64 j ∧ Hid (Ph wo.heap.size w10.heap.size w11 wx) ∧ Hid (0 < mm → Rs w10 g mm j wx)) (fun i _ => mm - (RowKit.intOf i).toNat)
      case atStart => exact ⟨0, Nat.zero_le _, rfl, Ph.refl _ _ _, fun h => ⟨(HG.out h).2.2.2, fun t _ _ => HB.out.2.cell (HG.out h).2.2.1⟩⟩
      case round =>
        obtain ⟨j, hj, rfl, hPh, hRs⟩ := hrel
        by_cases hjm : j < mm
        · obtain ⟨hag, hg1, hg2, _⟩ := HG.out (by omega)
          have hjl : j < its.length := by rw [← hmm.out]; exact hjm
          have hat := HS1.out.at (by intro e; rw [e] at hjl; simp at hjl)
          obtain ⟨g', cap', eg, _, _, hv4⟩ := hat
          simp only [Value.slice.injEq] at eg
          rw [hag] at eg
          have eg1 := eg.1
          simp only [Option.some.injEq, Addr.mk.injEq] at eg1
          have eg2 := eg1.1
          subst eg2
          subst hag
          have v4 := hv4 j its[j] (List.getElem?_eq_getElem hjl)
          have ow := (HS1.out.its _ (List.getElem_mem hjl)).own
          have hnl := (HS1.out.its _ (List.getElem_mem hjl)).n
          have hc3 := v4.c3
          unfold OwZ at ow
          generalize its[j].1 = ai at *
          generalize its[j].2.1 = ci at *
          generalize hnz : (ofV its[j].2.2).zs.length = nn at *
          generalize (ofV its[j].2.2).zs.map cx = xs at *
          have HOW : Hid (w11.ownsRow wo.heap.size 32 1 (.slice ai nn ci) nn xs) := owns_up ow HB.out.2
          have HOL : Hid (∀ q, (Value.slice ai nn ci).ownBlock = some q → q < w10.heap.size) := owns_lt ow
          have HC3 : Hid (w10.cell? ⟨g, j * 4 + 3, none⟩ = some (.slice ai nn ci)) := hc3
          clear hnz v4 hv4 eg eg1 ow hc3 hjl
          generalize wr = wi at *
          go_wp2_with fail
          go_loopw [14] (fun i wx => ∃ m : Nat, m ≤ nn ∧ i = .int .i64 m ∧ Hid (Ph wo.heap.size w10.heap.size w11 wx) ∧ Hid (Rs w10 g mm j wx)) (fun i _ => nn - (RowKit.intOf i).toNat)
          case atStart => exact ⟨0, Nat.zero_le _, rfl, hPh, hRs.out (by omega)⟩
          case round =>
            obtain ⟨m, hm, rfl, hPi, hRi⟩ := hrel
            have c3 : wr.cell? ⟨g, j * 4 + 3, none⟩ = some (.slice ai nn ci) := (hRi.out.2 _ (by omega) (by omega)).trans HC3.out
            by_cases hmn : m < nn
            · obtain ⟨gl, cl, vs, el, hl1, hl2, hl3, _, hl5, hl6⟩ := (hPi.out.row HOW.out HOL.out).resolve_left (by omega)
              simp only [Value.slice.injEq] at el
              obtain ⟨rfl, _, rfl⟩ := el
              have hml : m < vs.length := by omega
              have cm : wr.cell? ⟨gl, m, none⟩ = some vs[m] := by rw [hl6.cell, List.getElem?_eq_getElem hml]
              have fm := hl6.frz m
              have hcx := store_cx
              obtain ⟨us, hus⟩ := hRi.out.1
              have hne := bk_types hus hl6
              have N1 : Hid (_) := hPi.out.num (j := m) hl1 hl2 hl6 (.complex .f64 4636666922610458624 0)
              have N2 : Hid (_) := hRi.out.oth ((Oth.refl gl wr).set m (.complex .f64 4636666922610458624 0)) hne
              generalize vs[m] = um at *
              clear hl1 hl2 hl3 hl5 hl6 hml hus
              go_wp2_with fail
              go_roundw
              case rel => exact ⟨m + 1, by omega, by go_num, N1, N2⟩
              case measure => simp [RowKit.intOf]; omega
            · have hme : m = nn := by omega
              subst hme
              obtain ⟨v', w', r', hP', hB', ao', cap', ev⟩ := hPi.out.app (4636596553866280960, 0) HOW.out HOL.out hnl
              subst ev
              have R' : Hid (_ = _) := r'
              have hR' := hRi.out.same hB'
              obtain ⟨us, hus⟩ := hR'.1
              have cs3 : w'.cell? ⟨g, j * 4 + 3, none⟩ = some (.slice ai m ci) := (hR'.2 _ (by omega) (by omega)).trans HC3.out
              have fs3 := hus.frz (j * 4 + 3)
              have N1 : Hid (_) := hP'.val (j := j * 4 + 3) hg1 hg2 hus (.slice ao' (m + 1) cap')
              have N2 : Hid (_) := hR'.set (.slice ao' (m + 1) cap')
              clear r' hB' hP' hR' hus
              go_wp2_with (at_builtin; refine wpList_append_run rfl (.tmp 144) (.tmp 145) 33 rfl rfl (.slice ai m ci) (.slice (some ⟨wr.heap.size, 0, none⟩) 1 1) rfl rfl (.slice ao' (m + 1) cap') w' (show _ = _ from R') ?_)
              go_roundw
              case rel => exact ⟨j + 1, by omega, by go_num, N1, fun _ => N2⟩
              case measure => simp [RowKit.intOf]; omega
        · have hje : j = mm := by omega
          subst hje
          have HS2x : Hid (SR wr w10.heap.size (.slice aw its.length cw) its2) := HS2.out.ph hPh.out
          have hwP : wo.heap.size ≤ w11.heap.size := Nat.le_trans HB.out.1.size HB.out.2.size
          have hwW : w.heap.size ≤ wo.heap.size := Nat.le_trans b0.size BX.size
          have BF : Below w.heap.size w wr := (Below.thn b0 B11).trans (hPh.out.below hwW (Nat.le_trans hwW hwP))
          generalize wr = wq at *
          go_wp2_with fail
          rw [HBS.out]
          refine (hs2 _).mono ?_
          rintro e w12 ⟨hsc, hb12⟩
          obtain ⟨v12, its3, rfl, hS12, hits3⟩ := hsc.ex
          have HIE3 : Hid (its2.map (·.2.2) = its3.map (·.2.2)) := by show _ = _; rw [hits3]; exact HI2.out
          have hl23 : its2.length = its3.length := by
            have h1 := congrArg List.length HIE3.out
            simpa only [List.length_map] using h1
          have hl3 : its3.length = j := by rw [← hl23, ← HLE.out, ← hmm.out]
          have HL2 : Hid (its2.length = j) := by show _ = _; rw [hl23, hl3]
          have HL3 : Hid (its3.length = j) := hl3
          obtain ⟨am, cm, em, _, _⟩ := owns_slice hS12.row
          subst em
          rw [hl3] at hS12 ⊢
          have HS3 : Hid (SR w12 wq.heap.size (.slice am j cm) its3) := hS12
          have HSQ : Hid (SR w12 w10.heap.size (.slice aw j cw) its2) := by
            have := HS2x.out.up hb12
            rw [← hmm.out] at this
            exact this
          have BF12 : Below w.heap.size w w12 := Below.thn BF hb12
          clear hsc hS12 hits3 hl23 hl3 hs2 hPh hRs HS1 HS2 HS2x HG HB HI2 HIE HLE hmm hgc hwc
          generalize sE (spl rdG T) = se' at *
          go_wp2_with fail
          go_loopw [17] (fun i wx => ∃ t : Nat, t ≤ j ∧ i = .int .i64 t ∧ Below w12.heap.size w12 wx) (fun i _ => j - (RowKit.intOf i).toNat)
          case atStart => exact ⟨0, Nat.zero_le _, rfl, Below.refl _ _⟩
          case round =>
            obtain ⟨t, ht, rfl, hBt⟩ := hrel
            by_cases htj : t < j
            · have hj2 : t < its2.length := by rw [HL2.out]; exact htj
              have hj1 : t < its3.length := by rw [HL3.out]; exact htj
              have hne1 : its3 ≠ [] := by intro e; rw [e] at hj1; simp at hj1
              have hne2 : its2 ≠ [] := by intro e; rw [e] at hj2; simp at hj2
              obtain ⟨g2, cap2, eq2, _, _, hv2⟩ := (HS3.out.up hBt).at hne1
              obtain ⟨g1, cap1, eq1, _, _, hv1⟩ := (HSQ.out.up hBt).at hne2
              have m1 := hv1 t its2[t] (List.getElem?_eq_getElem hj2)
              have m2 := hv2 t its3[t] (List.getElem?_eq_getElem hj1)
              have r1 := ((HSQ.out.up hBt).its _ (List.getElem_mem hj2)).vr
              have r2 := ((HS3.out.up hBt).its _ (List.getElem_mem hj1)).vr
              have ok1 := ((HS3.out.up hBt).its _ (List.getElem_mem hj1)).ok
              have hee : its2[t].2.2 = its3[t].2.2 := by
                have := congrArg (fun x => x[t]?) HIE3.out
                simpa [List.getElem?_eq_getElem hj1, List.getElem?_eq_getElem hj2] using this
              rw [hee] at m1 r1
              have hso := sound_ofV ok1
              simp only [Value.slice.injEq] at eq1 eq2
              obtain ⟨rfl, em1, rfl⟩ := eq1
              obtain ⟨rfl, em2, rfl⟩ := eq2
              clear em1 em2
              generalize its2[t].1 = i1 at *
              generalize its2[t].2.1 = e1' at *
              generalize its3[t].1 = i2 at *
              generalize its3[t].2.1 = e2' at *
              generalize ofV its3[t].2.2 = v1 at *
              have hsame : ∀ W, Vr W i1 v1 → Vr W i2 v1 → Calls Tryz.prog 15 #[.agg #[.int .i64 v1.t, .complex .f64 v1.z.1 v1.z.2, .bool v1.r, .slice i1 v1.zs.length e1'], .agg #[.int .i64 v1.t, .complex .f64 v1.z.1 v1.z.2, .bool v1.r, .slice i2 v1.zs.length e2']] W fun e w' => e = .returned (.bool (sameV v1 v1)) ∧ Below W.heap.size W w' := fun W hv hu => rsame_any v1 v1 i1 i2 e1' e2' W hv hu
              have hss : sameV v1 v1 = true := by unfold sameV; rw [hso]; simp
              rw [hss] at hsame
              have hl1 := m1.lt
              have hl2 := m2.lt
              have hSS : ∀ X, Below wr.heap.size wr X → X.cell? ⟨g1, t * 4, none⟩ = some (.int .i64 v1.t) ∧ X.cell? ⟨g1, t * 4 + 1, none⟩ = some (.complex .f64 v1.z.1 v1.z.2) ∧ X.cell? ⟨g1, t * 4 + 2, none⟩ = some (.bool v1.r) ∧ X.cell? ⟨g1, t * 4 + 3, none⟩ = some (.slice i1 v1.zs.length e1') ∧ X.cell? ⟨g2, t * 4, none⟩ = some (.int .i64 v1.t) ∧ X.cell? ⟨g2, t * 4 + 1, none⟩ = some (.complex .f64 v1.z.1 v1.z.2) ∧ X.cell? ⟨g2, t * 4 + 2, none⟩ = some (.bool v1.r) ∧ X.cell? ⟨g2, t * 4 + 3, none⟩ = some (.slice i2 v1.zs.length e2') := fun X hX => ⟨(hX.cell hl1).trans m1.c0, (hX.cell hl1).trans m1.c1, (hX.cell hl1).trans m1.c2, (hX.cell hl1).trans m1.c3, (hX.cell hl2).trans m2.c0, (hX.cell hl2).trans m2.c1, (hX.cell hl2).trans m2.c2, (hX.cell hl2).trans m2.c3⟩
              have HS : Hid (∀ X, Below wr.heap.size wr X → X.cell? ⟨g1, t * 4, none⟩ = some (.int .i64 v1.t) ∧ X.cell? ⟨g1, t * 4 + 1, none⟩ = some (.complex .f64 v1.z.1 v1.z.2) ∧ X.cell? ⟨g1, t * 4 + 2, none⟩ = some (.bool v1.r) ∧ X.cell? ⟨g1, t * 4 + 3, none⟩ = some (.slice i1 v1.zs.length e1') ∧ X.cell? ⟨g2, t * 4, none⟩ = some (.int .i64 v1.t) ∧ X.cell? ⟨g2, t * 4 + 1, none⟩ = some (.complex .f64 v1.z.1 v1.z.2) ∧ X.cell? ⟨g2, t * 4 + 2, none⟩ = some (.bool v1.r) ∧ X.cell? ⟨g2, t * 4 + 3, none⟩ = some (.slice i2 v1.zs.length e2')) := hSS
              have s4 := hSS wr (Below.refl _ _)
              have bD := (Below.refl wr.heap.size wr).drew
              have sD := hSS wr.drew bD
              clear hSS m1 m2 hv1 hv2 hee hso ok1 hss hne1 hne2 hj1 hj2 HS3 HSQ HIE3 HL2 HL3
              go_upto_region 31 with fail
              go_region_held3 (fun X => X.cell? ⟨g1, t * 4, none⟩ = some (.int .i64 v1.t) ∧ X.cell? ⟨g1, t * 4 + 1, none⟩ = some (.complex .f64 v1.z.1 v1.z.2) ∧ X.cell? ⟨g1, t * 4 + 2, none⟩ = some (.bool v1.r) ∧ X.cell? ⟨g1, t * 4 + 3, none⟩ = some (.slice i1 v1.zs.length e1') ∧ X.cell? ⟨g2, t * 4, none⟩ = some (.int .i64 v1.t) ∧ X.cell? ⟨g2, t * 4 + 1, none⟩ = some (.complex .f64 v1.z.1 v1.z.2) ∧ X.cell? ⟨g2, t * 4 + 2, none⟩ = some (.bool v1.r) ∧ X.cell? ⟨g2, t * 4 + 3, none⟩ = some (.slice i2 v1.zs.length e2'))
                (first | (with_reducible exact sD) | (with_reducible exact s4) | (with_reducible exact sa)) (first
                | (go_at_call 15; (with_reducible refine Calls.mono (hsame _ (r1.up bD) (r2.up bD)) ?_); rintro e wa ⟨rfl, hba⟩; have ba := Below.thn bD hba; have sa := HS.out wa ba)
                | fail)
              all_goals
                go_wp2_with fail
                go_roundw
                case rel => exact ⟨t + 1, by omega, by go_num, Below.thn hBt ba⟩
                case measure => simp [RowKit.intOf]; omega
            · have hte : t = j := by omega
              subst hte
              go_wp2
              go_ret
              exact ⟨rfl, Below.thn BF12 hBt⟩
end Go.Proofs.YtbgggbkmnfppoaaGreatDoor
