/-
  The walk of ScopeBinds.
-/
import Derived.Test.YtaneibojiamjeaaGreatDoorUkf
import Derived.Test.YtaneibojiamjeaaGreatDoorI6
import Derived.Test.YtaneibojiamjeaaGreatDoorUkc
import Derived.Test.YtaneibojiamjeaaGreatDoorUke
import Derived.Test.YtaneibojiamjeaaGreatDoorIa
import Derived.Test.YtaneibojiamjeaaGreatDoorUki
import Derived.Test.YtaneibojiamjeaaGreatDoorJ0
import Derived.Laws.IdiomStrings
namespace Go.Proofs.YtaneibojiamjeaaGreatDoor
open Go.RowKit Go.Maps
set_option maxRecDepth 100000

/-- The bytes of a string. -/
theorem conv_str (w : World) (S : ByteArray) (_ : S.size ≤ 1000000000000000) :
    ∃ l ao cap w', S = bs l ∧ (convert 9 22 (.string S)).run Tryz.prog w = .ok (.slice ao l.length cap) w' ∧ Bd w' ao l ∧ l.length ≤ cap ∧ Below w.heap.size w w' := by
  have hr := run_bytes_of_string (P := Tryz.prog) w 9 22 5 S Tryz.underlying9 Tryz.underBs Tryz.underlying5
  have hl : S.data.toList.length = S.size := by rw [Array.length_toList]; rfl
  have hbl : Below w.heap.size w (w.drew.alloc (.cells (bytesRow S (grownCap w S.size 0 5)) 5 ((bytesRow S (grownCap w S.size 0 5)).size, (bytesRow S (grownCap w S.size 0 5)).size + 1))) := (Below.refl w.heap.size w).drew.alloc (Nat.le_refl _) _
  have hc : ∀ t, t < S.data.size → (w.drew.alloc (.cells (bytesRow S (grownCap w S.size 0 5)) 5 ((bytesRow S (grownCap w S.size 0 5)).size, (bytesRow S (grownCap w S.size 0 5)).size + 1))).cell? ⟨w.heap.size, 0 + t, none⟩ = some (.int .u8 ((S.data.toList.getD t 0).toNat : Int)) := fun t ht => by
    rw [Nat.zero_add]
    refine (cell_of_row _ w.heap.size t _ _ _ (heap_alloc_new w.drew _)).trans ?_
    rw [bytesRow_at _ _ t ht, List.getD_eq_getElem?_getD, List.getElem?_eq_getElem (by rw [Array.length_toList]; exact ht)]
    simp
  exact ⟨S.data.toList, _, _, _, by simp [bs], by rw [hl]; exact hr, ⟨fun _ => ⟨w.heap.size, 0, rfl, fun t ht => hc t (by rw [Array.length_toList] at ht; exact ht)⟩⟩, by rw [hl]; exact grownCap_ge w S.size 0 5, hbl⟩

/-- A definition's body among its cells. -/
theorem rng_body {w : World} {G o : Nat} {a b c y0 y1 y2 y3 y4 y5 y6 z : Value} (h : w.rangeAt G o [a, b, c, y0, y1, y2, y3, y4, y5, y6, z]) : w.rangeAt G (o + 3) [y0, y1, y2, y3, y4, y5, y6] := by
  intro j v hj
  have hl : j < 7 := by
    have := (List.getElem?_eq_some_iff.1 hj).1
    simpa using this
  have h2 : [a, b, c, y0, y1, y2, y3, y4, y5, y6, z][3 + j]? = some v := by
    have : j = 0 ∨ j = 1 ∨ j = 2 ∨ j = 3 ∨ j = 4 ∨ j = 5 ∨ j = 6 := by omega
    rcases this with rfl | rfl | rfl | rfl | rfl | rfl | rfl <;> exact hj
  have h3 := h (3 + j) v h2
  rwa [← Nat.add_assoc] at h3

set_option maxHeartbeats 16000000 in
theorem scopeBinds_any (A B X Y : ByteArray) (hA : A.size ≤ 140737488351232) (hB : B.size ≤ 140737488351232) (hX : X.size ≤ 140737488351232) (hY : Y.size ≤ 140737488351232) (w : World) (ht : Tab w) :
    Calls Tryz.prog 6 #[.string A, .string B, .string X, .string Y] w fun e w' => e = .returned (.bool true) ∧ Below w.heap.size w w' := by
  go_enter Tryz.func6, Tryz.ntmps6
  go_wp2_with fail
  refine (awake6_any w ht).mono ?_
  rintro e w1 ⟨rfl, hb1⟩
  obtain ⟨S, hS⟩ : ∃ S : ByteArray, S = (⟨#[102, 40, 41, 58, 78, 61, 40]⟩ : ByteArray) ++ A ++ ⟨#[10, 41, 59, 103, 40, 41, 58, 78, 61, 40]⟩ ++ B ++ ⟨#[10, 41, 59, 104, 40]⟩ ++ X ++ ⟨#[32, 78, 44]⟩ ++ Y ++ ⟨#[32, 76, 41, 58, 78, 61, 49, 59]⟩ := ⟨_, rfl⟩
  have hSs : S.size ≤ 1000000000000000 := by
    rw [hS]
    simp only [ByteArray.size_append]
    have e1 : (⟨#[102, 40, 41, 58, 78, 61, 40]⟩ : ByteArray).size = 7 := rfl
    have e2 : (⟨#[10, 41, 59, 103, 40, 41, 58, 78, 61, 40]⟩ : ByteArray).size = 10 := rfl
    have e3 : (⟨#[10, 41, 59, 104, 40]⟩ : ByteArray).size = 5 := rfl
    have e4 : (⟨#[32, 78, 44]⟩ : ByteArray).size = 3 := rfl
    have e5 : (⟨#[32, 76, 41, 58, 78, 61, 49, 59]⟩ : ByteArray).size = 8 := rfl
    omega
  obtain ⟨l, ao, cap, w2, hSl, hcv, hT2, hcap, hb2⟩ := conv_str w1 S hSs
  rw [hS] at hcv
  have HSL : Hid (S = bs l) := hSl
  clear hS hSl hSs
  obtain ⟨F, hF⟩ : ∃ F, F = 12 * (l.length + 1) + 9 := ⟨_, rfl⟩
  have hfu : ∀ ms, cut rdN l 0 = .ok ms → progL (mf ms) LW5 F [] 0 ≠ .out := fuel_ok l LW5 F (by omega)
  have HF : Hid (F = 12 * (l.length + 1) + 9) := hF
  clear hF
  have m2 := read5_any ao cap l hcap w2 hT2 F hfu
  go_wp2_with fail
  refine m2.mono ?_
  rintro e w3 ⟨hb3, hrd⟩
  have hB3 := (Below.thn hb1 hb2).trans (hb3.mono (by have := hb1.size; have := hb2.size; omega))
  clear m2 hfu hcv hT2 hcap hb1 hb2 hb3
  rcases rd_fork hrd with ⟨ms, gs, j, a2, c2, hl2, hc, hp, rfl, hfl⟩ | rfl
  · have HOK : Hid (PrgOk gs) := prgOk hl2 (by rw [HF.out]; exact Nat.le_refl _) hc hp
    have HLN : Hid (∀ g ∈ gs, lnF g) := prgLn hl2 hc hp
    have hb4 := below_alloc w3 (.cells #[.slice a2 gs.length c2] 26)
    have hP4 := Bk.new w3 26 #[.slice a2 gs.length c2]
    have HB4 : Hid (Below w.heap.size w _) := Below.thn hB3 hb4
    have hf4 := hfl.up hb4
    clear hc hp hrd hfl hl2 hB3
    go_upto_region 4 with fail
    generalize hW4 : w3.alloc (.cells #[.slice a2 gs.length c2] 26) = W4 at *
    obtain ⟨bp, hbp⟩ : ∃ bp, bp = w3.heap.size := ⟨_, rfl⟩
    rw [← hbp] at hP4 ⊢
    clear hW4 hb4 hbp
    have p0 : W4.cell? ⟨bp, 0, none⟩ = some (.slice a2 gs.length c2) := hP4.cell 0
    obtain ⟨n3, hn3e⟩ : ∃ n, n = gs.length := ⟨_, rfl⟩
    rw [← hn3e] at p0 hP4 ⊢
    by_cases h3 : n3 = 3
    · subst h3
      replace hn3e : gs.length = 3 := hn3e.symm
      have H3 : Hid (gs.length = 3) := hn3e
      have hn3 : (((3 : Nat) : Int) == 3) = true := rfl
      obtain ⟨G, vs, rfl, _, hv, hxv⟩ := hf4.at 2 (by omega)
      obtain ⟨_, vs0, e0, _, hv0, hxv0⟩ := hf4.at 0 (by omega)
      cases e0
      obtain ⟨_, vs1, e1, _, hv1, hxv1⟩ := hf4.at 1 (by omega)
      cases e1
      have h2i : (2 : Int) < ((3 : Nat) : Int) := by decide
      have h1i : (1 : Int) < ((3 : Nat) : Int) := by decide
      have h0i : (0 : Int) < ((3 : Nat) : Int) := by decide
      obtain ⟨g0, hg0⟩ : ∃ g, g = gs.getD 0 fd := ⟨_, rfl⟩
      obtain ⟨g1, hg1⟩ : ∃ g, g = gs.getD 1 fd := ⟨_, rfl⟩
      rw [← hg0] at hxv0
      rw [← hg1] at hxv1
      have HG0 : Hid (szE g0.body ≤ 65536 ∧ lnE g0.body) := by
        have hm : gs.getD 0 fd ∈ gs := by rw [List.getD_eq_getElem?_getD, List.getElem?_eq_getElem (by omega)]; exact List.getElem_mem _
        rw [hg0]
        exact ⟨by have := HOK.out.sz _ hm; omega, (HLN.out _ hm).body⟩
      have HG1 : Hid (szE g1.body ≤ 65536 ∧ lnE g1.body) := by
        have hm : gs.getD 1 fd ∈ gs := by rw [List.getD_eq_getElem?_getD, List.getElem?_eq_getElem (by omega)]; exact List.getElem_mem _
        rw [hg1]
        exact ⟨by have := HOK.out.sz _ hm; omega, (HLN.out _ hm).body⟩
      clear hg0 hg1
      obtain ⟨_, _, es0, hvs0, _, hB0⟩ := id hxv0
      obtain ⟨y0, y1, y2, y3, y4, y5, y6, rfl⟩ := list7 hB0.len
      simp only [List.cons_append, List.nil_append] at hvs0
      subst hvs0
      have r0 : W4.rangeAt G 3 [y0, y1, y2, y3, y4, y5, y6] := by have := rng_body hv0; simpa using this
      obtain ⟨_, _, es1, hvs1, _, hB1⟩ := id hxv1
      obtain ⟨z0, z1, z2, z3, z4, z5, z6, rfl⟩ := list7 hB1.len
      simp only [List.cons_append, List.nil_append] at hvs1
      subst hvs1
      have r1 : W4.rangeAt G 14 [z0, z1, z2, z3, z4, z5, z6] := by have := rng_body hv1; simpa using this
      have R0 : Hid (W4.rangeAt G 3 [y0, y1, y2, y3, y4, y5, y6]) := r0
      have R1 : Hid (W4.rangeAt G 14 [z0, z1, z2, z3, z4, z5, z6]) := r1
      clear hv0 hv1 hxv0 hxv1 r0 r1 hn3e
      obtain ⟨ap, cp, es, hvs, hp1, hx1⟩ := id hxv
      obtain ⟨x0, x1, x2, x3, x4, x5, x6, rfl⟩ := list7 hx1.len
      simp only [List.cons_append, List.nil_append] at hvs
      subst hvs
      obtain ⟨ps, hps⟩ : ∃ ps, ps = (gs.getD 2 fd).pms := ⟨_, rfl⟩
      rw [← hps] at hp1 hv
      have d1 : W4.cell? ⟨G, 22 + 1, none⟩ = some (.slice ap ps.length cp) := hv 1 _ rfl
      obtain ⟨n2, hn2e⟩ : ∃ n, n = ps.length := ⟨_, rfl⟩
      rw [← hn2e] at d1
      clear hv
      by_cases h2 : n2 = 2
      · subst h2
        have h2 : ps.length = 2 := hn2e.symm
        have hn2 : (((2 : Nat) : Int) == 2) = true := rfl
        obtain ⟨g', rfl, hv0⟩ := PlW.at hp1 0 (by omega)
        obtain ⟨g2, e2, hv1⟩ := PlW.at hp1 1 (by omega)
        cases e2
        have q0 : W4.cell? ⟨g', 0, none⟩ = some (.string (bs (ps.getD 0 pd).name)) := by have := hv0 0 _ rfl; simpa using this
        have q1 : W4.cell? ⟨g', 3, none⟩ = some (.string (bs (ps.getD 1 pd).name)) := by have := hv1 0 _ rfl; simpa using this
        have h2b : (1 : Int) < ((2 : Nat) : Int) := by decide
        have h2a : (0 : Int) < ((2 : Nat) : Int) := by decide
        clear hv0 hv1
        obtain ⟨nx, hnx0⟩ : ∃ nx, nx = (ps.getD 0 pd).name := ⟨_, rfl⟩
        obtain ⟨ny, hny0⟩ : ∃ ny, ny = (ps.getD 1 pd).name := ⟨_, rfl⟩
        rw [← hnx0] at q0
        rw [← hny0] at q1
        have hnl : nx.length ≤ 140737488355328 ∧ ny.length ≤ 140737488355328 := by
          have hm2 : gs.getD 2 fd ∈ gs := by rw [List.getD_eq_getElem?_getD, List.getElem?_eq_getElem (by have := H3.out; omega)]; exact List.getElem_mem _
          have hl := (HLN.out _ hm2).pms
          rw [← hps] at hl
          constructor
          · rw [hnx0]
            refine (hl _ ?_).1
            rw [List.getD_eq_getElem?_getD, List.getElem?_eq_getElem (by omega)]
            exact List.getElem_mem _
          · rw [hny0]
            refine (hl _ ?_).1
            rw [List.getD_eq_getElem?_getD, List.getElem?_eq_getElem (by omega)]
            exact List.getElem_mem _
        clear h2 hn2e hnx0 hny0 hps hp1 hx1 hxv
        by_cases hx : bs nx = X
        · subst hx
          have gx : ((bs nx).toList == (bs nx).toList) = true := by simp
          by_cases hy : bs ny = Y
          · subst hy
            have gy : ((bs ny).toList == (bs ny).toList) = true := by simp
            go_upto_region 6 with fail
            have hZ := Bk.new W4 43 #[.int .i64 0, .string ⟨#[]⟩, .string ⟨#[]⟩, .int .i64 0, .complex .f64 0 0, .slice none 0 0, .int .i64 0]
            have r0 := R0.out
            have hone0 := hB0.one
            go_upto_region 7 with (first
              | refine wpList_loadN rfl 43 (.tmp 88) rfl G 3 rfl [y0, y1, y2, y3, y4, y5, y6] _ r0 Tryz.underE Tryz.infoE ?_
              | (refine wpList_storeN rfl 43 (.tmp 11) (.tmp 89) rfl W4.heap.size 0 [y0, y1, y2, y3, y4, y5, y6] rfl rfl hZ (Nat.le_refl 7) Tryz.infoE hone0 ?_; intro W5 hV5 hO5))
            have hV5 : Bk W5 W4.heap.size 43 [y0, y1, y2, y3, y4, y5, y6] := hV5
            have hb5 : Below W4.heap.size W4 W5 := (below_alloc W4 _).trans (hO5.below (Nat.le_refl _))
            obtain ⟨b11, hb11⟩ : ∃ b, b = W4.heap.size := ⟨_, rfl⟩
            rw [← hb11] at hV5 ⊢
            have p5 : W5.cell? ⟨bp, 0, none⟩ = some (.slice (some ⟨G, 0, none⟩) 3 c2) := (hP4.up hb5).cell 0
            have r1 : W5.rangeAt G 14 [z0, z1, z2, z3, z4, z5, z6] := fun j v hj => by
              have h := R1.out j v hj
              exact (hb5.cell (cell_lt h)).trans h
            have hB05 := hB0.up hb5
            have hB15 := hB1.up hb5
            have HB5 : Hid (Below w.heap.size w W5) := Below.thn HB4.out hb5
            clear hf4 hP4 p0 d1 q0 q1 hZ hO5 r0 hone0 hB0 hB1 R0 R1 hb5 hb11 HB4 h2i h2a h2b hn2 hn3
            have hZ := Bk.new W5 43 #[.int .i64 0, .string ⟨#[]⟩, .string ⟨#[]⟩, .int .i64 0, .complex .f64 0 0, .slice none 0 0, .int .i64 0]
            have hone1 := hB15.one
            go_upto_region 8 with (first
              | refine wpList_loadN rfl 43 (.tmp 93) rfl G 14 rfl [z0, z1, z2, z3, z4, z5, z6] _ r1 Tryz.underE Tryz.infoE ?_
              | (refine wpList_storeN rfl 43 (.tmp 12) (.tmp 94) rfl W5.heap.size 0 [z0, z1, z2, z3, z4, z5, z6] rfl rfl hZ (Nat.le_refl 7) Tryz.infoE hone1 ?_; intro W6 hV6 hO6))
            have hV6 : Bk W6 W5.heap.size 43 [z0, z1, z2, z3, z4, z5, z6] := hV6
            have hb6 : Below W5.heap.size W5 W6 := (below_alloc W5 _).trans (hO6.below (Nat.le_refl _))
            obtain ⟨b12, hb12⟩ : ∃ b, b = W5.heap.size := ⟨_, rfl⟩
            rw [← hb12] at hV6 ⊢
            have hV56 := hV5.up hb6
            have hB06 := hB05.up hb6
            have hB16 := hB15.up hb6
            have HB6 : Hid (Below w.heap.size w W6) := Below.thn HB5.out hb6
            clear hZ hO6 r1 hone1 hB05 hB15 hb6 hb12 HB5 hV5 p5
            obtain ⟨c0, c1, c2', c3, c4, c5, c6⟩ := Bk.seven hV56
            obtain ⟨e0, e1, e2, e3, e4, e5, e6⟩ := Bk.seven hV6
            go_upto_region 9 with fail
            have hb7 := below_alloc W6 (.cells #[y0, y1, y2, y3, y4, y5, y6, z0, z1, z2, z3, z4, z5, z6] 43)
            have hT7 := Bk.new W6 43 #[y0, y1, y2, y3, y4, y5, y6, z0, z1, z2, z3, z4, z5, z6]
            generalize hW7 : W6.alloc (.cells #[y0, y1, y2, y3, y4, y5, y6, z0, z1, z2, z3, z4, z5, z6] 43) = W7 at *
            obtain ⟨bt, hbt⟩ : ∃ b, b = W6.heap.size := ⟨_, rfl⟩
            rw [← hbt] at hT7 ⊢
            have hV11 := hV56.up hb7
            have hV12 := hV6.up hb7
            have hB07 := (hB06.up hb7).imp (A' := fun _ => True) fun _ _ _ => True.intro
            have hB17 := (hB16.up hb7).imp (A' := fun _ => True) fun _ _ _ => True.intro
            have HB7 : Hid (Below w.heap.size w W7) := Below.thn HB6.out hb7
            have HE7 : Hid (ExW W7 (fun _ => True) g0.body [y0, y1, y2, y3, y4, y5, y6] ∧ ExW W7 (fun _ => True) g1.body [z0, z1, z2, z3, z4, z5, z6]) := ⟨hB07, hB17⟩
            have HT7 : Hid (ElW W7 (fun _ => True) (some ⟨bt, 0, none⟩) [g0.body, g1.body]) :=
              .cons True.intro (hT7.rng 0 _ fun j v hj => by
                have hl : j < 7 := by
                  have := (List.getElem?_eq_some_iff.1 hj).1
                  simpa using this
                have : j = 0 ∨ j = 1 ∨ j = 2 ∨ j = 3 ∨ j = 4 ∨ j = 5 ∨ j = 6 := by omega
                rcases this with rfl | rfl | rfl | rfl | rfl | rfl | rfl <;> exact hj) hB07 (.cons True.intro (hT7.rng 7 _ fun j v hj => by
                have hl : j < 7 := by
                  have := (List.getElem?_eq_some_iff.1 hj).1
                  simpa using this
                have : j = 0 ∨ j = 1 ∨ j = 2 ∨ j = 3 ∨ j = 4 ∨ j = 5 ∨ j = 6 := by omega
                rcases this with rfl | rfl | rfl | rfl | rfl | rfl | rfl <;> exact hj) hB17 .nil)
            clear hW7 hb7 hT7 hV56 hV6 hB06 hB16 HB6 hbt c0 c1 c2' c3 c4 c5 c6 e0 e1 e2 e3 e4 e5 e6
            obtain ⟨c0, c1, c2', c3, c4, c5, c6⟩ := Bk.seven hV11
            have m := free6_any (by have := HG0.out.1; omega) HG0.out.2 W7 _ _ hB07
            go_wp2_with fail
            refine m.mono ?_
            rintro e w8 ⟨⟨v8, o8, rfl, hI8, hO8⟩, hb8⟩
            have HI8 : Hid (IsSrt (frE g0.body) o8) := hI8
            have HO8 : Hid (OwN w8 W7.heap.size v8 o8) := hO8
            clear m hI8 hO8 c0 c1 c2' c3 c4 c5 c6
            obtain ⟨e0, e1, e2, e3, e4, e5, e6⟩ := Bk.seven (hV12.up hb8)
            have m := free6_any (by have := HG1.out.1; omega) HG1.out.2 w8 _ _ (hB17.up hb8)
            go_upto_region 10 with fail
            go_wp2_with fail
            refine m.mono ?_
            rintro e w9 ⟨⟨v9, o9, rfl, hI9, hO9⟩, hb9⟩
            have HI9 : Hid (IsSrt (frE g1.body) o9) := hI9
            have HO9 : Hid (OwN w8 W7.heap.size v8 o8 ∧ OwN w9 w8.heap.size v9 o9) := ⟨HO8.out, hO9⟩
            have HB9 : Hid (Below W7.heap.size W7 w9 ∧ Below w8.heap.size w8 w9) := ⟨Below.thn hb8 hb9, hb9⟩
            clear m hI9 hO9 hb8 hb9 hB07 hB17 e0 e1 e2 e3 e4 e5 e6 HO8
            go_upto_region 11 with fail
            have hx : ExW w9 (fun _ => True) (.mk 21 nx [] 1 0 0 [g0.body, g1.body] 0) [.int .i64 21, .string (bs nx), .string ⟨#[]⟩, .int .i64 1, .complex .f64 0 0, .slice (some ⟨bt, 0, none⟩) 2 2, .int .i64 0] := by
              have h := ExW.mk (op := 21) (name := nx) (tail := []) (ty := 1) (p := 0) (q := 0) (pos := 0) (c := 2) (HT7.out.up HB9.out.1)
              rw [fl_zero] at h
              exact h
            have m := free6_any (by rw [szE_mk, szL_cons, szL_cons, szL_nil]; have := HG0.out.1; have := HG1.out.1; omega) (by unfold lnE; simp only [wfE, wfL]; exact ⟨.bind (.inl rfl) hnl.1 (.inl rfl), HG0.out.2, HG1.out.2, True.intro⟩) w9 _ _ hx
            go_wp2_with fail
            refine m.mono ?_
            rintro e w10 ⟨⟨v10, o10, rfl, hI, hO⟩, hb⟩
            have HI10 : Hid (IsSrt (frE (.mk 21 nx [] 1 0 0 [g0.body, g1.body] 0)) o10) := hI
            have HO10 : Hid (OwN w10 w9.heap.size v10 o10) := hO
            have HB10 : Hid (Below W7.heap.size W7 w10 ∧ Below w9.heap.size w9 w10) := ⟨Below.thn HB9.out.1 hb, hb⟩
            clear m hI hO hb hx
            go_upto_region 12 with fail
            have hx : ExW w10 (fun _ => True) (.mk 22 nx [] 1 0 0 [g0.body, g1.body] 0) [.int .i64 22, .string (bs nx), .string ⟨#[]⟩, .int .i64 1, .complex .f64 0 0, .slice (some ⟨bt, 0, none⟩) 2 2, .int .i64 0] := by
              have h := ExW.mk (op := 22) (name := nx) (tail := []) (ty := 1) (p := 0) (q := 0) (pos := 0) (c := 2) (HT7.out.up HB10.out.1)
              rw [fl_zero] at h
              exact h
            have m := free6_any (by rw [szE_mk, szL_cons, szL_cons, szL_nil]; have := HG0.out.1; have := HG1.out.1; omega) (by unfold lnE; simp only [wfE, wfL]; exact ⟨.bind (.inr rfl) hnl.1 (.inl rfl), HG0.out.2, HG1.out.2, True.intro⟩) w10 _ _ hx
            go_wp2_with fail
            refine m.mono ?_
            rintro e w11 ⟨⟨v11, o11, rfl, hI, hO⟩, hb⟩
            have HI11 : Hid (IsSrt (frE (.mk 22 nx [] 1 0 0 [g0.body, g1.body] 0)) o11) := hI
            have HO11 : Hid (OwN w11 w10.heap.size v11 o11) := hO
            have HB11 : Hid (Below W7.heap.size W7 w11 ∧ Below w10.heap.size w10 w11) := ⟨Below.thn HB10.out.1 hb, hb⟩
            clear m hI hO hb hx
            go_upto_region 13 with fail
            have hb := below_alloc w11 (.cells #[y0, y1, y2, y3, y4, y5, y6, y0, y1, y2, y3, y4, y5, y6, z0, z1, z2, z3, z4, z5, z6] 43)
            have hT := Bk.new w11 43 #[y0, y1, y2, y3, y4, y5, y6, y0, y1, y2, y3, y4, y5, y6, z0, z1, z2, z3, z4, z5, z6]
            have h0 := (HE7.out.1.up HB11.out.1).up hb
            have h1 := (HE7.out.2.up HB11.out.1).up hb
            have hx : ExW (w11.alloc (.cells #[y0, y1, y2, y3, y4, y5, y6, y0, y1, y2, y3, y4, y5, y6, z0, z1, z2, z3, z4, z5, z6] 43)) (fun _ => True) (.mk 20 nx ny 0 0 0 [g0.body, g0.body, g1.body] 0) [.int .i64 20, .string (bs nx), .string (bs ny), .int .i64 0, .complex .f64 0 0, .slice (some ⟨w11.heap.size, 0, none⟩) 3 3, .int .i64 0] := by
              have hl : ElW (w11.alloc (.cells #[y0, y1, y2, y3, y4, y5, y6, y0, y1, y2, y3, y4, y5, y6, z0, z1, z2, z3, z4, z5, z6] 43)) (fun _ => True) (some ⟨w11.heap.size, 0, none⟩) [g0.body, g0.body, g1.body] :=
                .cons True.intro (hT.rng 0 _ fun j v hj => by
                have hl : j < 7 := by
                  have := (List.getElem?_eq_some_iff.1 hj).1
                  simpa using this
                have : j = 0 ∨ j = 1 ∨ j = 2 ∨ j = 3 ∨ j = 4 ∨ j = 5 ∨ j = 6 := by omega
                rcases this with rfl | rfl | rfl | rfl | rfl | rfl | rfl <;> exact hj) h0 (.cons True.intro (hT.rng 7 _ fun j v hj => by
                have hl : j < 7 := by
                  have := (List.getElem?_eq_some_iff.1 hj).1
                  simpa using this
                have : j = 0 ∨ j = 1 ∨ j = 2 ∨ j = 3 ∨ j = 4 ∨ j = 5 ∨ j = 6 := by omega
                rcases this with rfl | rfl | rfl | rfl | rfl | rfl | rfl <;> exact hj) h0 (.cons True.intro (hT.rng 14 _ fun j v hj => by
                have hl : j < 7 := by
                  have := (List.getElem?_eq_some_iff.1 hj).1
                  simpa using this
                have : j = 0 ∨ j = 1 ∨ j = 2 ∨ j = 3 ∨ j = 4 ∨ j = 5 ∨ j = 6 := by omega
                rcases this with rfl | rfl | rfl | rfl | rfl | rfl | rfl <;> exact hj) h1 .nil))
              have h := ExW.mk (op := 20) (name := nx) (tail := ny) (ty := 0) (p := 0) (q := 0) (pos := 0) (c := 3) hl
              rw [fl_zero] at h
              exact h
            have m := free6_any (by rw [szE_mk, szL_cons, szL_cons, szL_cons, szL_nil]; have := HG0.out.1; have := HG1.out.1; omega) (by unfold lnE; simp only [wfE, wfL]; exact ⟨.look hnl.1 hnl.2, HG0.out.2, HG0.out.2, HG1.out.2, True.intro⟩) _ _ _ hx
            obtain ⟨c0, c1, c2', c3, c4, c5, c6⟩ := Bk.seven (hV11.up HB11.out.1)
            obtain ⟨e0, e1, e2, e3, e4, e5, e6⟩ := Bk.seven (hV12.up HB11.out.1)
            clear hT h0 h1 hx
            go_wp2_with fail
            refine m.mono ?_
            rintro e w12 ⟨⟨v12, o12, rfl, hI, hO⟩, hb2⟩
            have HI12 : Hid (IsSrt (frE (.mk 20 nx ny 0 0 0 [g0.body, g0.body, g1.body] 0)) o12) := hI
            have HO12 : Hid (OwN w12 w11.heap.size v12 o12) := hO.base (by have := hb.size; omega)
            have HB12 : Hid (Below W7.heap.size W7 w12 ∧ Below w11.heap.size w11 w12) := ⟨Below.thn HB11.out.1 (Below.thn hb hb2), Below.thn hb hb2⟩
            clear m hI hO hb hb2 c0 c1 c2' c3 c4 c5 c6 e0 e1 e2 e3 e4 e5 e6
            go_upto_region 14 with fail
            have hZ := Bk.new w12 43 #[.int .i64 0, .string ⟨#[]⟩, .string ⟨#[]⟩, .int .i64 0, .complex .f64 0 0, .slice none 0 0, .int .i64 0]
            have hone : ∀ v ∈ ([.int .i64 8, .string ⟨#[]⟩, .string ⟨#[]⟩, .int .i64 0, .complex .f64 0 0, .slice (some ⟨bt, 0, none⟩) 2 2, .int .i64 0] : List Value), v.oneCell' = true := by
              intro v hv
              simp only [List.mem_cons, List.not_mem_nil, or_false] at hv
              rcases hv with rfl | rfl | rfl | rfl | rfl | rfl | rfl <;> rfl
            go_upto_region 15 with (refine wpList_storeN rfl 43 (.tmp 19) (.tmp 119) rfl w12.heap.size 0 [.int .i64 8, .string ⟨#[]⟩, .string ⟨#[]⟩, .int .i64 0, .complex .f64 0 0, .slice (some ⟨bt, 0, none⟩) 2 2, .int .i64 0] rfl rfl hZ (Nat.le_refl 7) Tryz.infoE hone ?_; intro w13 hV13 hO13)
            have hV13 : Bk w13 w12.heap.size 43 [.int .i64 8, .string ⟨#[]⟩, .string ⟨#[]⟩, .int .i64 0, .complex .f64 0 0, .slice (some ⟨bt, 0, none⟩) 2 2, .int .i64 0] := hV13
            have hb : Below w12.heap.size w12 w13 := (below_alloc w12 _).trans (hO13.below (Nat.le_refl _))
            obtain ⟨b19, hb19⟩ : ∃ b, b = w12.heap.size := ⟨_, rfl⟩
            rw [← hb19] at hV13 ⊢
            have HB13 : Hid (Below W7.heap.size W7 w13 ∧ Below w12.heap.size w12 w13) := ⟨Below.thn HB12.out.1 hb, hb⟩
            have hx : ExW w13 (fun _ => True) (.mk 8 [] [] 0 0 0 [g0.body, g1.body] 0) [.int .i64 8, .string ⟨#[]⟩, .string ⟨#[]⟩, .int .i64 0, .complex .f64 0 0, .slice (some ⟨bt, 0, none⟩) 2 2, .int .i64 0] := by
              have h := ExW.mk (op := 8) (name := []) (tail := []) (ty := 0) (p := 0) (q := 0) (pos := 0) (c := 2) (HT7.out.up HB13.out.1)
              rw [fl_zero] at h
              exact h
            have HX13 : Hid (ExW w13 (fun _ => True) (.mk 8 [] [] 0 0 0 [g0.body, g1.body] 0) [.int .i64 8, .string ⟨#[]⟩, .string ⟨#[]⟩, .int .i64 0, .complex .f64 0 0, .slice (some ⟨bt, 0, none⟩) 2 2, .int .i64 0]) := hx
            clear hZ hone hO13 hb hb19 hx
            have hs0 := HG0.out.1
            have hs1 := HG1.out.1
            have HS1 : Hid (∀ W, Below w13.heap.size w13 W → Calls Tryz.prog 21 #[.agg #[.int .i64 8, .string ⟨#[]⟩, .string ⟨#[]⟩, .int .i64 0, .complex .f64 0 0, .slice (some ⟨bt, 0, none⟩) 2 2, .int .i64 0]] W fun e w' => e = .returned (.int .i64 ((szE g0.body : Int) + (szE g1.body : Int) + 1)) ∧ Below W.heap.size W w') := fun W hW => by
              have h := size6_any 262144 (.mk 8 [] [] 0 0 0 [g0.body, g1.body] 0) (by rw [szE_mk, szL_cons, szL_cons, szL_nil]; omega) (by decide) W _ _ (HX13.out.up hW)
              rw [szE_mk, szL_cons, szL_cons, szL_nil] at h
              have e : ((szE g0.body + (szE g1.body + 0) + 1 : Nat) : Int) = (szE g0.body : Int) + (szE g1.body : Int) + 1 := by omega
              rw [e] at h
              exact h
            have HU1 : Hid (∀ W, Below w13.heap.size w13 W → Calls Tryz.prog 22 #[.agg #[.int .i64 8, .string ⟨#[]⟩, .string ⟨#[]⟩, .int .i64 0, .complex .f64 0 0, .slice (some ⟨bt, 0, none⟩) 2 2, .int .i64 0], .string (bs nx)] W fun e w' => e = .returned (.int .i64 ((usE nx g0.body : Int) + (usE nx g1.body : Int))) ∧ Below W.heap.size W w') := fun W hW => by
              have h := uses6_any (x := .mk 8 [] [] 0 0 0 [g0.body, g1.body] 0) (by rw [szE_mk, szL_cons, szL_cons, szL_nil]; omega) (by unfold lnE; simp only [wfE, wfL]; exact ⟨.two (by decide), HG0.out.2, HG1.out.2, True.intro⟩) W _ _ (HX13.out.up hW) nx
              have e : ((usE nx (.mk 8 [] [] 0 0 0 [g0.body, g1.body] 0) : Nat) : Int) = (usE nx g0.body : Int) + (usE nx g1.body : Int) := by
                rw [usE_fsE, fs_sum, List.count_append, ← usE_fsE, ← usE_fsE]
                omega
              rw [e] at h
              exact h
            refine wp_region_any (by kernel_rfl) ?_
            refine bind15 (X0 := w13) (b1 := b19) (b2 := b11) (b3 := b12) (nm := nx) (Sa := szE g0.body) (Sb := szE g1.body) (Ua := usE nx g0.body) (Ub := usE nx g1.body) ⟨by omega, by omega, by omega, by omega, by omega, by have := usE_le nx g0.body; omega, by omega, by have := usE_le nx g1.body; omega⟩ (fun W hW => Bk.seven (hV13.up hW)) (fun W hW => Bk.seven ((hV11.up HB13.out.1).up hW)) (fun W hW => Bk.seven ((hV12.up HB13.out.1).up hW)) HS1.out (fun W hW => size6_any 262144 _ (by omega) (by decide) W _ _ ((HE7.out.1.up HB13.out.1).up hW)) (fun W hW => size6_any 262144 _ (by omega) (by decide) W _ _ ((HE7.out.2.up HB13.out.1).up hW)) HU1.out (fun W hW => uses6_any (by omega) HG0.out.2 W _ _ ((HE7.out.1.up HB13.out.1).up hW) nx) (fun W hW => uses6_any (by omega) HG1.out.2 W _ _ ((HE7.out.2.up HB13.out.1).up hW) nx) (by show 242 ≤ 242; decide) rfl rfl rfl rfl (Below.refl _ _).drew ?_
            intro a W hO hW hv
            rename_i K1 h1 K0 h0
            obtain ⟨y120, y121, y122, y123, y124, y125, y126, y127, y128, y129, y130, y131, y132, y133, y134, y135, y136, y137, y138, y139, y140, y141, ⟨-, -, -, -, -, -, -, -, -, -, -, -, -, -, -, -, -, -, -, -, -, e141⟩, rfl⟩ := offP hO
            have f141 : y141 = .bool false := e141.symm.trans (hv 21 (by decide))
            subst f141
            obtain ⟨a8, c8, e8, N8, z8, _⟩ := HO9.out.1.names
            obtain ⟨a9, c9, e9, N9, z9, _⟩ := HO9.out.2.names
            obtain ⟨a10, c10, e10, N10, _, _⟩ := HO10.out.names
            obtain ⟨a11, c11, e11, N11, _, _⟩ := HO11.out.names
            obtain ⟨a12, c12, e12, N12, _, _⟩ := HO12.out.names
            subst e8
            subst e9
            subst e10
            subst e11
            subst e12
            have D12 := Below.thn HB13.out.2 hW
            have D11 := Below.thn HB12.out.2 D12
            have D10 := Below.thn HB11.out.2 D11
            have D9 := Below.thn HB10.out.2 D10
            have D8 := Below.thn HB9.out.2 D9
            have D7 := Below.thn HB13.out.1 hW
            simp only [Exit.then]
            refine h0 _ _ (wp_cond_false rfl (wp_skip ?_))
            simp only [Exit.then]
            refine h1 _ _ ?_
            exact binds_tail (E := g0.body) (G := g1.body) w W _ rfl (Below.thn HB7.out D7) (N8.up D8) z8 (N9.up D9) z9 (N10.up D10) (N11.up D11) (N12.up D12) HI8.out HI9.out HI10.out HI11.out HI12.out (HE7.out.1.up D7) (hV11.up D7) HG0.out.1 HG0.out.2 HG1.out.1
          · have hny : ((bs ny).toList == Y.toList) = false := by
              rw [beq_eq_false_iff_ne]
              intro e
              apply hy
              apply ByteArray.ext
              apply Array.ext'
              rw [← Lib.toList_data, ← Lib.toList_data]
              exact e
            clear hy
            go_wp2_with fail
            go_ret
            exact ⟨rfl, HB4.out⟩
        · have hnx : ((bs nx).toList == X.toList) = false := by
            rw [beq_eq_false_iff_ne]
            intro e
            apply hx
            apply ByteArray.ext
            apply Array.ext'
            rw [← Lib.toList_data, ← Lib.toList_data]
            exact e
          clear hx
          go_wp2_with fail
          go_ret
          exact ⟨rfl, HB4.out⟩
      · have hn2 : ¬ ((n2 : Int) = 2) := by omega
        clear h2 hn2e
        go_wp2_with fail
        go_ret
        exact ⟨rfl, HB4.out⟩
    · have hn3 : ¬ ((n3 : Int) = 3) := by omega
      clear h3 hn3e
      go_wp2_with fail
      go_ret
      exact ⟨rfl, HB4.out⟩
  · have hb4 := below_alloc w3 (.cells #[.slice none 0 0] 26)
    have HB4 : Hid (Below w.heap.size w _) := Below.thn hB3 hb4
    clear hB3
    go_wp2_with fail
    go_ret
    exact ⟨rfl, HB4.out⟩
end Go.Proofs.YtaneibojiamjeaaGreatDoor
