/-
  The document's heap: which cells are cells of it; nodes and pairs, told.
-/
import Derived.Test.YtdbnlgjpfkfnjaaDi
import Derived.Test.YtdbnlgjpfkfnjaaDs
namespace Go.Proofs.Ytdbnlgjpfkfnjaa
open Go.RowKit
open Go.Lib
set_option maxRecDepth 100000

theorem zeroV_of (x y : Nat) : zeroV (x, y) = (vc x y && decide (ofX x y = 0 ∧ ofY x y = 0)) := by
  rw [zeroV_eq]
  cases hv : vc x y with
  | false =>
    rw [Bool.false_and]
    refine decide_eq_false fun e => ?_
    cases e
    rw [vc_zero] at hv
    cases hv
  | true =>
    rw [Bool.true_and, Bool.eq_iff_iff, decide_eq_true_eq, decide_eq_true_eq]
    unfold ofX ofY
    rw [hv, if_pos rfl, if_pos rfl]
    obtain ⟨h1, h2⟩ := wz_of (z := (x, y)) hv
    constructor
    · intro e
      cases e
      have h3 : (nb 0, nb 0) = ((0 : Int), (0 : Int)) := by
        have := nb_fl 0 (by decide)
        rw [fl_zero] at this
        rw [this]
      simpa using h3
    · rintro ⟨e1, e2⟩
      rw [e1, e2] at h2
      exact h2.symm
theorem Try.infoN2 : (Try.prog.info? 95).map (·.size) = some 2 := by kernel_rfl
theorem one2 (x y : Int) : ∀ v ∈ ([.int .i64 x, .int .i64 y] : List Value), v.oneCell' = true := by
  intro v hv; simp only [List.mem_cons, List.not_mem_nil, or_false] at hv; rcases hv with rfl | rfl <;> rfl
set_option maxHeartbeats 1000000 in
theorem rzero_any (x y : Nat) (w : World) (hx : x < 2 ^ 64) (hy : y < 2 ^ 64) :
    Calls Try.prog 41 #[.complex .f64 x y] w fun e w' => e = .returned (.bool (zeroV (x, y))) ∧ Below w.heap.size w w' := by
  rw [zeroV_of]
  have ho := of_any x y w hx hy
  generalize ofX x y = p at *
  generalize ofY x y = q at *
  generalize vc x y = V at *
  have hb1 := below_alloc w (.cells #[.int .i64 p, .int .i64 q] 95)
  by_cases hp : p = 0 <;> by_cases hq : q = 0 <;> cases V <;>
  · go_enter Try.func41, Try.ntmps41
    go_wp2_with fail
    refine ho.mono ?_
    rintro e w1 ⟨rfl, rfl⟩
    clear ho
    generalize w.alloc (.cells #[.int .i64 p, .int .i64 q] 95) = w1 at *
    go_wp2
    all_goals
      go_ret
      exact ⟨ret_bool (by simp_all), Below.thn hb1 (below_alloc w1 _)⟩

set_option maxHeartbeats 4000000 in
theorem rcell4 {tP : TypeId} {S : Nat → Prop} {w : World} {b : Nat} {H : Hm} (h : HpW 30 tP S w b H) (x y : Nat) (r : Bool) (a : Int) (hx : x < 2 ^ 64) (hy : y < 2 ^ 64) :
    Calls Try.prog 36 #[.pointer (some ⟨b, 0, none⟩), clV ⟨4, (x, y), r, a⟩] w fun e w' => e = .returned (.bool (zeroV (x, y) && !r && hasI H.ps.length a)) ∧ Below w.heap.size w w' := by
  obtain ⟨_, _, vn, vp, hB, hN, hP, _, _⟩ := h
  obtain ⟨ao, cap, rfl, hc1, hc2⟩ := hN.slice
  obtain ⟨bo, cap', rfl, hc3, hc4⟩ := hP.slice
  generalize H.ns.length = nn at *
  generalize H.ps.length = np at *
  clear hN hP
  unfold clV
  have hb0 := below_alloc w (.cells #[.int .i64 4, .complex .f64 x y, .bool r, .int .i64 a] 55)
  have hX0 : Bk (w.alloc (.cells #[.int .i64 4, .complex .f64 x y, .bool r, .int .i64 a] 55)) w.heap.size 55 (clC ⟨4, (x, y), r, a⟩) := Bk.new w 55 #[.int .i64 4, .complex .f64 x y, .bool r, .int .i64 a]
  have hZ := fun W => rzero_any x y W hx hy
  dsimp only
  generalize zeroV (x, y) = Z at hZ ⊢
  have hB0 := hB.up hb0
  clear hB
  have hI : hasI np a = (decide (0 ≤ a) && decide (a < (np : Int))) := by unfold hasI; rw [Bool.decide_and]
  rw [hI]
  clear hI
  cases Z with
  | false =>
    go_enter Try.func36, Try.ntmps36
    go_upto_region 10 with fail
    generalize w.alloc (.cells #[.int .i64 4, .complex .f64 x y, .bool r, .int .i64 a] 55) = W at *
    refine wp_region_any (by kernel_rfl) ?_
    refine rc10a (X0 := W) (X := w.heap.size) (b := b) (n := np) (cap := cap') (x := x) (y := y) (ao := bo) (z := a) (r := r) (fun V hV => ⟨(hX0.up hV).cell 1, (hX0.up hV).cell 2, (hX0.up hV).cell 3, (hB0.up hV).cell 1⟩) (fun V _ => hZ V) (by show 103 ≤ 103; decide) rfl rfl (Below.refl _ _).drew ?_
    intro a1 V hO hV hv
    obtain ⟨y4, y55, y56, y57, y58, y59, y60, y61, y62, y63, y64, y65, y66, y67, y68, y69, y70, y71, y72, y73, y74, y75, y76, y77, ⟨e4, _, _, _, _, _, _, _, _, _, _, _, _, _, _, _, _, _, _, _, _, _, _, _⟩, rfl⟩ := offci hO
    have f4 : y4 = .bool false := e4.symm.trans (hv 23 (by decide))
    subst f4
    clear hO hv e4 hZ
    go_wp2
    go_ret
    exact ⟨ret_bool (by simp_all), Below.thn hb0 hV⟩
  | true =>
    cases r with
    | true =>
      go_enter Try.func36, Try.ntmps36
      go_upto_region 10 with fail
      generalize w.alloc (.cells #[.int .i64 4, .complex .f64 x y, .bool true, .int .i64 a] 55) = W at *
      refine wp_region_any (by kernel_rfl) ?_
      refine rc10b (X0 := W) (X := w.heap.size) (b := b) (n := np) (cap := cap') (x := x) (y := y) (ao := bo) (z := a) (fun V hV => ⟨(hX0.up hV).cell 1, (hX0.up hV).cell 2, (hX0.up hV).cell 3, (hB0.up hV).cell 1⟩) (fun V _ => hZ V) (by show 103 ≤ 103; decide) rfl rfl (Below.refl _ _).drew ?_
      intro a1 V hO hV hv
      obtain ⟨y4, y55, y56, y57, y58, y59, y60, y61, y62, y63, y64, y65, y66, y67, y68, y69, y70, y71, y72, y73, y74, y75, y76, y77, ⟨e4, _, _, _, _, _, _, _, _, _, _, _, _, _, _, _, _, _, _, _, _, _, _, _⟩, rfl⟩ := offci hO
      have f4 : y4 = .bool false := e4.symm.trans (hv 23 (by decide))
      subst f4
      clear hO hv e4 hZ
      go_wp2
      go_ret
      exact ⟨ret_bool (by simp_all), Below.thn hb0 hV⟩
    | false =>
      by_cases h0 : 0 ≤ a
      · have hd : decide (0 ≤ a) = true := decide_eq_true h0
        go_enter Try.func36, Try.ntmps36
        go_upto_region 10 with fail
        generalize w.alloc (.cells #[.int .i64 4, .complex .f64 x y, .bool false, .int .i64 a] 55) = W at *
        refine wp_region_any (by kernel_rfl) ?_
        refine rc10d (X0 := W) (X := w.heap.size) (b := b) (n := np) (cap := cap') (x := x) (y := y) (ao := bo) (z := a) (fun V hV => ⟨(hX0.up hV).cell 1, (hX0.up hV).cell 2, (hX0.up hV).cell 3, (hB0.up hV).cell 1⟩) (fun V _ => hZ V) hd (by show 103 ≤ 103; decide) rfl rfl (Below.refl _ _).drew ?_
        intro a1 V hO hV hv
        obtain ⟨y4, y55, y56, y57, y58, y59, y60, y61, y62, y63, y64, y65, y66, y67, y68, y69, y70, y71, y72, y73, y74, y75, y76, y77, ⟨e4, _, _, _, _, _, _, _, _, _, _, _, _, _, _, _, _, _, _, _, _, _, _, _⟩, rfl⟩ := offci hO
        have f4 : y4 = .bool (decide (a < (np : Int))) := e4.symm.trans (hv 23 (by decide))
        subst f4
        clear hO hv e4 hZ
        go_wp2
        go_ret
        exact ⟨ret_bool (by simp_all), Below.thn hb0 hV⟩
      · have hd : decide (0 ≤ a) = false := decide_eq_false h0
        go_enter Try.func36, Try.ntmps36
        go_upto_region 10 with fail
        generalize w.alloc (.cells #[.int .i64 4, .complex .f64 x y, .bool false, .int .i64 a] 55) = W at *
        refine wp_region_any (by kernel_rfl) ?_
        refine rc10c (X0 := W) (X := w.heap.size) (b := b) (n := np) (cap := cap') (x := x) (y := y) (ao := bo) (z := a) (fun V hV => ⟨(hX0.up hV).cell 1, (hX0.up hV).cell 2, (hX0.up hV).cell 3, (hB0.up hV).cell 1⟩) (fun V _ => hZ V) hd (by show 103 ≤ 103; decide) rfl rfl (Below.refl _ _).drew ?_
        intro a1 V hO hV hv
        obtain ⟨y4, y55, y56, y57, y58, y59, y60, y61, y62, y63, y64, y65, y66, y67, y68, y69, y70, y71, y72, y73, y74, y75, y76, y77, ⟨e4, _, _, _, _, _, _, _, _, _, _, _, _, _, _, _, _, _, _, _, _, _, _, _⟩, rfl⟩ := offci hO
        have f4 : y4 = .bool false := e4.symm.trans (hv 23 (by decide))
        subst f4
        clear hO hv e4 hZ
        go_wp2
        go_ret
        exact ⟨ret_bool (by simp_all), Below.thn hb0 hV⟩
set_option maxHeartbeats 4000000 in
theorem rcell5 {tP : TypeId} {S : Nat → Prop} {w : World} {b : Nat} {H : Hm} (h : HpW 30 tP S w b H) (x y : Nat) (r : Bool) (a : Int) (hx : x < 2 ^ 64) (hy : y < 2 ^ 64) :
    Calls Try.prog 36 #[.pointer (some ⟨b, 0, none⟩), clV ⟨5, (x, y), r, a⟩] w fun e w' => e = .returned (.bool (zeroV (x, y) && !r && hasI H.ns.length a)) ∧ Below w.heap.size w w' := by
  obtain ⟨_, _, vn, vp, hB, hN, hP, _, _⟩ := h
  obtain ⟨ao, cap, rfl, hc1, hc2⟩ := hN.slice
  obtain ⟨bo, cap', rfl, hc3, hc4⟩ := hP.slice
  generalize H.ns.length = nn at *
  generalize H.ps.length = np at *
  clear hN hP
  unfold clV
  have hb0 := below_alloc w (.cells #[.int .i64 5, .complex .f64 x y, .bool r, .int .i64 a] 55)
  have hX0 : Bk (w.alloc (.cells #[.int .i64 5, .complex .f64 x y, .bool r, .int .i64 a] 55)) w.heap.size 55 (clC ⟨5, (x, y), r, a⟩) := Bk.new w 55 #[.int .i64 5, .complex .f64 x y, .bool r, .int .i64 a]
  have hZ := fun W => rzero_any x y W hx hy
  dsimp only
  generalize zeroV (x, y) = Z at hZ ⊢
  have hB0 := hB.up hb0
  clear hB
  have hI : hasI nn a = (decide (0 ≤ a) && decide (a < (nn : Int))) := by unfold hasI; rw [Bool.decide_and]
  rw [hI]
  clear hI
  cases Z with
  | false =>
    go_enter Try.func36, Try.ntmps36
    go_upto_region 12 with fail
    generalize w.alloc (.cells #[.int .i64 5, .complex .f64 x y, .bool r, .int .i64 a] 55) = W at *
    refine wp_region_any (by kernel_rfl) ?_
    refine rc12a (X0 := W) (X := w.heap.size) (b := b) (n := nn) (cap := cap) (x := x) (y := y) (ao := ao) (z := a) (r := r) (fun V hV => ⟨(hX0.up hV).cell 1, (hX0.up hV).cell 2, (hX0.up hV).cell 3, (hB0.up hV).cell 0⟩) (fun V _ => hZ V) (by show 103 ≤ 103; decide) rfl rfl (Below.refl _ _).drew ?_
    intro a1 V hO hV hv
    obtain ⟨y4, y80, y81, y82, y83, y84, y85, y86, y87, y88, y89, y90, y91, y92, y93, y94, y95, y96, y97, y98, y99, y100, y101, y102, ⟨e4, _, _, _, _, _, _, _, _, _, _, _, _, _, _, _, _, _, _, _, _, _, _, _⟩, rfl⟩ := offcj hO
    have f4 : y4 = .bool false := e4.symm.trans (hv 23 (by decide))
    subst f4
    clear hO hv e4 hZ
    go_wp2
    go_ret
    exact ⟨ret_bool (by simp_all), Below.thn hb0 hV⟩
  | true =>
    cases r with
    | true =>
      go_enter Try.func36, Try.ntmps36
      go_upto_region 12 with fail
      generalize w.alloc (.cells #[.int .i64 5, .complex .f64 x y, .bool true, .int .i64 a] 55) = W at *
      refine wp_region_any (by kernel_rfl) ?_
      refine rc12b (X0 := W) (X := w.heap.size) (b := b) (n := nn) (cap := cap) (x := x) (y := y) (ao := ao) (z := a) (fun V hV => ⟨(hX0.up hV).cell 1, (hX0.up hV).cell 2, (hX0.up hV).cell 3, (hB0.up hV).cell 0⟩) (fun V _ => hZ V) (by show 103 ≤ 103; decide) rfl rfl (Below.refl _ _).drew ?_
      intro a1 V hO hV hv
      obtain ⟨y4, y80, y81, y82, y83, y84, y85, y86, y87, y88, y89, y90, y91, y92, y93, y94, y95, y96, y97, y98, y99, y100, y101, y102, ⟨e4, _, _, _, _, _, _, _, _, _, _, _, _, _, _, _, _, _, _, _, _, _, _, _⟩, rfl⟩ := offcj hO
      have f4 : y4 = .bool false := e4.symm.trans (hv 23 (by decide))
      subst f4
      clear hO hv e4 hZ
      go_wp2
      go_ret
      exact ⟨ret_bool (by simp_all), Below.thn hb0 hV⟩
    | false =>
      by_cases h0 : 0 ≤ a
      · have hd : decide (0 ≤ a) = true := decide_eq_true h0
        go_enter Try.func36, Try.ntmps36
        go_upto_region 12 with fail
        generalize w.alloc (.cells #[.int .i64 5, .complex .f64 x y, .bool false, .int .i64 a] 55) = W at *
        refine wp_region_any (by kernel_rfl) ?_
        refine rc12d (X0 := W) (X := w.heap.size) (b := b) (n := nn) (cap := cap) (x := x) (y := y) (ao := ao) (z := a) (fun V hV => ⟨(hX0.up hV).cell 1, (hX0.up hV).cell 2, (hX0.up hV).cell 3, (hB0.up hV).cell 0⟩) (fun V _ => hZ V) hd (by show 103 ≤ 103; decide) rfl rfl (Below.refl _ _).drew ?_
        intro a1 V hO hV hv
        obtain ⟨y4, y80, y81, y82, y83, y84, y85, y86, y87, y88, y89, y90, y91, y92, y93, y94, y95, y96, y97, y98, y99, y100, y101, y102, ⟨e4, _, _, _, _, _, _, _, _, _, _, _, _, _, _, _, _, _, _, _, _, _, _, _⟩, rfl⟩ := offcj hO
        have f4 : y4 = .bool (decide (a < (nn : Int))) := e4.symm.trans (hv 23 (by decide))
        subst f4
        clear hO hv e4 hZ
        go_wp2
        go_ret
        exact ⟨ret_bool (by simp_all), Below.thn hb0 hV⟩
      · have hd : decide (0 ≤ a) = false := decide_eq_false h0
        go_enter Try.func36, Try.ntmps36
        go_upto_region 12 with fail
        generalize w.alloc (.cells #[.int .i64 5, .complex .f64 x y, .bool false, .int .i64 a] 55) = W at *
        refine wp_region_any (by kernel_rfl) ?_
        refine rc12c (X0 := W) (X := w.heap.size) (b := b) (n := nn) (cap := cap) (x := x) (y := y) (ao := ao) (z := a) (fun V hV => ⟨(hX0.up hV).cell 1, (hX0.up hV).cell 2, (hX0.up hV).cell 3, (hB0.up hV).cell 0⟩) (fun V _ => hZ V) hd (by show 103 ≤ 103; decide) rfl rfl (Below.refl _ _).drew ?_
        intro a1 V hO hV hv
        obtain ⟨y4, y80, y81, y82, y83, y84, y85, y86, y87, y88, y89, y90, y91, y92, y93, y94, y95, y96, y97, y98, y99, y100, y101, y102, ⟨e4, _, _, _, _, _, _, _, _, _, _, _, _, _, _, _, _, _, _, _, _, _, _, _⟩, rfl⟩ := offcj hO
        have f4 : y4 = .bool false := e4.symm.trans (hv 23 (by decide))
        subst f4
        clear hO hv e4 hZ
        go_wp2
        go_ret
        exact ⟨ret_bool (by simp_all), Below.thn hb0 hV⟩
set_option maxHeartbeats 4000000 in
theorem rcell_any {tP : TypeId} {S : Nat → Prop} {w : World} {b : Nat} {H : Hm} (h : HpW 30 tP S w b H) (c : Cl) (hz : ltZ c.z) :
    Calls Try.prog 36 #[.pointer (some ⟨b, 0, none⟩), clV c] w fun e w' => e = .returned (.bool (isC H.ns.length H.ps.length c)) ∧ Below w.heap.size w w' := by
  obtain ⟨k, ⟨x, y⟩, r, a⟩ := c
  have h4 := rcell4 h x y r a hz.1 hz.2
  have h5 := rcell5 h x y r a hz.1 hz.2
  unfold clV at h4 h5 ⊢
  unfold isC
  dsimp only at h4 h5
  have hb0 := below_alloc w (.cells #[.int .i64 k, .complex .f64 x y, .bool r, .int .i64 a] 55)
  have hX0 : Bk (w.alloc (.cells #[.int .i64 k, .complex .f64 x y, .bool r, .int .i64 a] 55)) w.heap.size 55 (clC ⟨k, (x, y), r, a⟩) := Bk.new w 55 #[.int .i64 k, .complex .f64 x y, .bool r, .int .i64 a]
  have hO := fun W => of_any x y W hz.1 hz.2
  have hZ := fun W => rzero_any x y W hz.1 hz.2
  dsimp only at hO hZ ⊢
  generalize ofX x y = p at hO
  generalize ofY x y = q at hO
  generalize vc x y = V at hO ⊢
  generalize zeroV (x, y) = Z at hZ h4 h5 ⊢
  by_cases k1 : k = 1
  · subst k1
    rcases Decidable.em (a = 0) with rfl | ha <;> cases V <;> cases r <;>
    · go_enter Try.func36, Try.ntmps36
      go_wp2_with (go_at_call 40; refine (hO _).mono ?_; rintro e w' ⟨rfl, rfl⟩)
      all_goals
        go_ret
        exact ⟨ret_bool (by simp_all), Below.thn (Below.thn (below_alloc _ _) (below_alloc _ _)) (below_alloc _ _)⟩
  · by_cases k2 : k = 2
    · subst k2
      rcases Decidable.em (a = 0) with rfl | ha <;> cases Z <;> cases r <;>
      · go_enter Try.func36, Try.ntmps36
        go_wp2_with (go_at_call 41; refine (hZ _).mono ?_; rintro e w' ⟨rfl, hb1⟩; obtain ⟨z0, z1, z2, z3⟩ := bk_cl (hX0.up hb1))
        all_goals
          go_ret
          exact ⟨ret_bool (by simp_all), Below.thn hb0 hb1⟩
    · by_cases k3 : k = 3
      · subst k3
        rcases Decidable.em (a = 0) with rfl | ha <;> cases Z <;> cases r <;>
        · go_enter Try.func36, Try.ntmps36
          go_wp2_with (go_at_call 41; refine (hZ _).mono ?_; rintro e w' ⟨rfl, hb1⟩; obtain ⟨z0, z1, z2, z3⟩ := bk_cl (hX0.up hb1))
          all_goals
            go_ret
            exact ⟨ret_bool (by simp_all), Below.thn hb0 hb1⟩
      · by_cases k4 : k = 4
        · subst k4
          exact h4
        · by_cases k5 : k = 5
          · subst k5
            exact h5
          · go_enter Try.func36, Try.ntmps36
            go_wp2
            go_ret
            exact ⟨ret_bool (by simp_all), hb0⟩
end Go.Proofs.Ytdbnlgjpfkfnjaa
