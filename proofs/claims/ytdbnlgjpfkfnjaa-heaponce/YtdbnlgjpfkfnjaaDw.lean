/-
  All that is there in both heaps is the same.
-/
import Derived.Test.YtdbnlgjpfkfnjaaDv
namespace Go.Proofs.Ytdbnlgjpfkfnjaa
open Go.RowKit
open Go.Lib
set_option maxRecDepth 100000

theorem Below.othr {w w1 w2 : World} {g : Nat} (h : Below w.heap.size w w1) (hO : Oth g w1 w2) (hg : w.heap.size ≤ g) : Below w.heap.size w w2 := h.trans (hO.below hg)
set_option maxHeartbeats 4000000 in
theorem whole_any {w : World} {S1 S2 : Nat → Prop} {bh bm n : Nat} {H : Hm} (p : HpW 73 87 S1 w bh H) (r : HpW 30 80 S2 w bm H) (hsz : Sz n H) (hok : OkH H) (hl : n < 1300000000000) :
    Calls Try.prog 10 #[.pointer (some ⟨bh, 0, none⟩), .pointer (some ⟨bm, 0, none⟩)] w fun e w' => e = .returned (.bool true) ∧ Below w.heap.size w w' := by
  have r_ := r
  obtain ⟨_, _, vn, vp, hB, hN, hP, _, _⟩ := r
  obtain ⟨ao, cn, rfl, hc1, hc2⟩ := hN.slice
  obtain ⟨bo, cp, rfl, hc3, hc4⟩ := hP.slice
  have HB : Hid (Bk w bm 30 [.slice ao H.ns.length cn, .slice bo H.ps.length cp, .int .i64 H.th, .int .i64 H.up]) := hB
  have HP : Hid (HpW 73 87 S1 w bh H) := p
  have HR : Hid (HpW 30 80 S2 w bm H) := r_
  have HO : Hid (OkH H) := hok
  have hnl : H.ns.length < 1300000000000 := by have := hsz.1; omega
  have hpl : H.ps.length < 1300000000000 := by have := hsz.2.1; omega
  clear hB hN hP p hok hsz r_
  go_enter Try.func10, Try.ntmps10
  go_wp2_with fail
  go_loopw [5] (fun v wr => ∃ k : Nat, k ≤ H.ns.length + 1 ∧ v = .int .i64 k ∧ Below w.heap.size w wr) (fun v _ => H.ns.length + 1 - (intOf v).toNat)
  case atStart => exact ⟨0, Nat.zero_le _, rfl, Below.refl _ _⟩
  case round =>
    obtain ⟨k, hkn, rfl, hb⟩ := hrel
    have cm : wr.cell? ⟨bm, 0, none⟩ = some (.slice ao H.ns.length cn) := (HB.out.up hb).cell 0
    by_cases hlt : k ≤ H.ns.length
    · have ho := ok_get HO.out (k : Int)
      have h1 := look_any (HP.out.up hb) (k : Int)
      obtain ⟨⟨N, E⟩, hE⟩ : ∃ l, l = lookP H (k : Int) := ⟨_, rfl⟩
      rw [← hE] at h1 ho
      dsimp only at h1 ho
      have HE : Hid ((N, E) = lookP H (k : Int)) := hE
      clear hE
      have s1 := hb.size
      go_wp2_with fail
      refine h1.mono ?_
      rintro e w2 ⟨rfl, u2⟩
      have hZ : Bk (w2.alloc (.cells #[.int .i64 0, .int .i64 0, .int .i64 0, .complex .f64 0 0, .bool false, .int .i64 0] 60)) w2.heap.size 60 (ndC nd0) := Bk.new w2 60 #[.int .i64 0, .int .i64 0, .int .i64 0, .complex .f64 0 0, .bool false, .int .i64 0]
      have v2 := below_alloc w2 (.cells #[.int .i64 0, .int .i64 0, .int .i64 0, .complex .f64 0 0, .bool false, .int .i64 0] 60)
      have s2 := u2.size
      go_upto_region 5 with (refine wpList_storeN rfl 60 (.tmp 6) (.tmp 31) rfl w2.heap.size 0 (ndC N) rfl rfl hZ (Nat.le_refl 6) Try.infoNd (ndC_one _) ?_; intro w4 m4 hO4)
      rw [over_nd] at m4
      have b4 := Below.othr (Below.thn (Below.thn hb u2) v2) hO4 (by omega)
      have h2 := rlook_any (HR.out.up b4) (k : Int)
      rw [← HE.out] at h2
      dsimp only at h2
      have t4 := m4.lt
      clear h1 hb u2 v2 hZ hO4 cm
      go_wp2_with fail
      refine h2.mono ?_
      rintro e w5 ⟨rfl, u5⟩
      have hZ5 : Bk (w5.alloc (.cells #[.int .i64 0, .int .i64 0, .int .i64 0, .complex .f64 0 0, .bool false, .int .i64 0] 60)) w5.heap.size 60 (ndC nd0) := Bk.new w5 60 #[.int .i64 0, .int .i64 0, .int .i64 0, .complex .f64 0 0, .bool false, .int .i64 0]
      have v5 := below_alloc w5 (.cells #[.int .i64 0, .int .i64 0, .int .i64 0, .complex .f64 0 0, .bool false, .int .i64 0] 60)
      have s5 := u5.size
      go_upto_region 6 with (refine wpList_storeN rfl 60 (.tmp 8) (.tmp 37) rfl w5.heap.size 0 (ndC N) rfl rfl hZ5 (Nat.le_refl 6) Try.infoNd (ndC_one _) ?_; intro w6 k6 hO6)
      rw [over_nd] at k6
      have b6 := Below.othr (Below.thn (Below.thn b4 u5) v5) hO6 (by omega)
      have m6 := ((m4.up u5).up v5).oth hO6 (by omega)
      obtain ⟨x0, x1, x2, x3, x4, x5⟩ := bk_nd m6
      obtain ⟨y0, y1, y2, y3, y4, y5⟩ := bk_nd k6
      have hal := alike_any N N w6
      rw [alikeN_refl ho] at hal
      clear h2 u5 v5 hZ5 hO6 m4 m6 k6 b4
      go_wp2_with (go_at_call 22; refine hal.mono ?_; rintro e w7 ⟨rfl, u7⟩)
      go_roundw
      case rel => exact ⟨k + 1, by omega, by go_num, Below.thn b6 u7⟩
      case measure => simp [intOf]; omega
    · go_wp2_with fail
      clear cm
      go_loopw [10] (fun v wr => ∃ k : Nat, k ≤ H.ps.length + 1 ∧ v = .int .i64 k ∧ Below w.heap.size w wr) (fun v _ => H.ps.length + 1 - (intOf v).toNat)
      case atStart => exact ⟨0, Nat.zero_le _, rfl, hb⟩
      case round =>
        clear hb
        obtain ⟨j, hjn, rfl, hb⟩ := hrel
        have cm : wr.cell? ⟨bm, 1, none⟩ = some (.slice bo H.ps.length cp) := (HB.out.up hb).cell 1
        have s1 := hb.size
        by_cases hlj : j ≤ H.ps.length
        · obtain ⟨ho1, ho2⟩ := ok_parts HO.out (j : Int)
          have h1 := parts_any (HP.out.up hb) (j : Int)
          obtain ⟨⟨⟨N, M⟩, E⟩, hE⟩ : ∃ l, l = partsP H (j : Int) := ⟨_, rfl⟩
          rw [← hE] at h1 ho1 ho2
          dsimp only at h1 ho1 ho2
          have HE : Hid (((N, M), E) = partsP H (j : Int)) := hE
          clear hE
          go_wp2_with fail
          refine h1.mono ?_
          rintro e w2 ⟨rfl, u2⟩
          obtain ⟨v2, hA, hC⟩ := new2 w2 55 #[.int .i64 0, .complex .f64 0 0, .bool false, .int .i64 0] #[.int .i64 0, .complex .f64 0 0, .bool false, .int .i64 0]
          have hA : Bk _ w2.heap.size 55 (clC cl0) := hA
          have hC : Bk _ (w2.heap.size + 1) 55 (clC cl0) := hC
          have s2 := u2.size
          go_upto_region 12 with (first
            | (refine wpList_storeN rfl 55 (.tmp 11) (.tmp 61) rfl w2.heap.size 0 (clC N) rfl rfl hA (Nat.le_refl 4) Try.infoCl (clC_one _) ?_; intro w3 p3 hO3; have hC3 := hC.oth hO3 (by omega))
            | (refine wpList_storeN rfl 55 (.tmp 12) (.tmp 62) rfl (w2.heap.size + 1) 0 (clC M) rfl rfl hC3 (Nat.le_refl 4) Try.infoCl (clC_one _) ?_; intro w4 r4 hO4))
          rw [over_cl] at p3 r4
          have p4 := p3.oth hO4 (by omega)
          have b4 := Below.othr (Below.othr (Below.thn (Below.thn hb u2) v2) hO3 (by omega)) hO4 (by omega)
          have t4 := r4.lt
          have h2 := rparts_any (HR.out.up b4) (j : Int)
          rw [← HE.out] at h2
          dsimp only at h2
          clear h1 hb u2 v2 hA hC hC3 hO3 hO4 p3 cm
          go_wp2_with fail
          refine h2.mono ?_
          rintro e w5 ⟨rfl, u5⟩
          have hZ5 : Bk (w5.alloc (.cells #[.int .i64 0, .complex .f64 0 0, .bool false, .int .i64 0, .int .i64 0, .complex .f64 0 0, .bool false, .int .i64 0] 80)) w5.heap.size 80 (prC (cl0, cl0)) := Bk.new w5 80 #[.int .i64 0, .complex .f64 0 0, .bool false, .int .i64 0, .int .i64 0, .complex .f64 0 0, .bool false, .int .i64 0]
          have v5 := below_alloc w5 (.cells #[.int .i64 0, .complex .f64 0 0, .bool false, .int .i64 0, .int .i64 0, .complex .f64 0 0, .bool false, .int .i64 0] 80)
          have s5 := u5.size
          go_upto_region 13 with (refine wpList_storeN rfl 80 (.tmp 14) (.tmp 68) rfl w5.heap.size 0 (prC (N, M)) rfl rfl hZ5 (Nat.le_refl 8) Try.infoPr8 (prC_one _) ?_; intro w6 k6 hO6)
          have k6 : Bk w6 w5.heap.size 80 (prC (N, M)) := k6
          have b6 := Below.othr (Below.thn (Below.thn b4 u5) v5) hO6 (by omega)
          have p6 := ((p4.up u5).up v5).oth hO6 (by omega)
          have r6 := ((r4.up u5).up v5).oth hO6 (by omega)
          have hs1 := fun W => same_any N N W
          rw [sameC_refl ho1] at hs1
          have hs2 := fun W => same_any M M W
          rw [sameC_refl ho2] at hs2
          obtain ⟨x0, x1, x2, x3⟩ := bk_cl p6
          obtain ⟨y0, y1, y2, y3, _, _, _, _⟩ := bk_pr k6
          clear h2 u5 v5 hZ5 hO6 p4 r4 p6 b4
          go_wp2_with fail
          refine (hs1 _).mono ?_
          rintro e w7 ⟨rfl, u7⟩
          have r7 := r6.up u7
          have k7 := k6.up u7
          clear x0 x1 x2 x3 y0 y1 y2 y3 r6 k6 hs1
          obtain ⟨x0, x1, x2, x3⟩ := bk_cl r7
          obtain ⟨_, _, _, _, y4, y5, y6, y7⟩ := bk_pr k7
          go_wp2_with (go_at_call 19; refine (hs2 _).mono ?_; rintro e w8 ⟨rfl, u8⟩)
          go_roundw
          case rel => exact ⟨j + 1, by omega, by go_num, Below.thn (Below.thn b6 u7) u8⟩
          case measure => simp [intOf]; omega
        · have h1 := counts_any (HP.out.up hb)
          go_wp2_with fail
          refine h1.mono ?_
          rintro e w2 ⟨rfl, u2⟩
          have B2 := (HB.out.up hb).up u2
          have e2 : w2.cell? ⟨bm, 2, none⟩ = some (.int .i64 H.th) := B2.cell 2
          have e3 : w2.cell? ⟨bm, 3, none⟩ = some (.int .i64 H.up) := B2.cell 3
          clear h1 B2
          go_wp2
          go_ret
          exact ⟨by simp, Below.thn hb u2⟩
end Go.Proofs.Ytdbnlgjpfkfnjaa
