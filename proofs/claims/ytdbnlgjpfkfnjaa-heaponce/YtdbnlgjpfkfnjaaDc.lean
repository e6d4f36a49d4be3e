/-
  A heap's calls that only look: ends, nodes, pairs, counts; a new heap.
-/
import Derived.Test.YtdbnlgjpfkfnjaaDb
namespace Go.Proofs.Ytdbnlgjpfkfnjaa
open Go.RowKit
open Go.Lib
set_option maxRecDepth 100000

theorem isEnd_any {tP : TypeId} {S : Nat → Prop} {w : World} {b : Nat} {H : Hm} (h : HpW 73 tP S w b H) (c : Cl) (hz : ltZ c.z) :
    Calls Try.prog 33 #[.pointer (some ⟨b, 0, none⟩), clV c] w fun e w' => e = .returned (.bool (decide (c.k ≠ 5) && isC H.ns.length H.ps.length c)) ∧ Below w.heap.size w w' := by
  have hI := fun (W : World) (hb : Below w.heap.size w W) => isCell_any (h.up hb) c hz
  generalize isC H.ns.length H.ps.length c = N at hI ⊢
  obtain ⟨k, ⟨x, y⟩, r, a⟩ := c
  unfold clV at hI ⊢
  have hb1 : ∀ o, Below w.heap.size w (w.alloc o) := fun o => below_alloc w o
  by_cases k5 : k = 5
  · go_enter Try.func33, Try.ntmps33
    go_wp2
    all_goals
      go_ret
      exact ⟨ret_bool (by simp_all), hb1 _⟩
  · go_enter Try.func33, Try.ntmps33
    go_wp2_with (go_at_call 31; refine (hI _ (hb1 _)).mono ?_; rintro e w' ⟨rfl, hb⟩)
    all_goals
      go_ret
      exact ⟨ret_bool (by simp_all), Below.thn (hb1 _) hb⟩

theorem hpNew {tH tP : TypeId} {w : World} : HpW tH tP (· = w.heap.size) (w.alloc (.cells #[.slice none 0 0, .slice none 0 0, .int .i64 0, .int .i64 0] tH)) w.heap.size hm0 :=
  ⟨fun k hk => by rw [hk]; simp, rfl, _, _, Bk.new w tH #[.slice none 0 0, .slice none 0 0, .int .i64 0, .int .i64 0], Rows_.nil _ _ _ _, Rows_.nil _ _ _ _, fun k hk => by simp [Value.ownBlock] at hk, fun k hk => by simp [Value.ownBlock] at hk⟩
theorem new_any (w : World) :
    Calls Try.prog 8 #[] w fun e w' => e = .returned (.pointer (some ⟨w.heap.size, 0, none⟩)) ∧ w' = w.alloc (.cells #[.slice none 0 0, .slice none 0 0, .int .i64 0, .int .i64 0] 73) := by
  go_enter Try.func8, Try.ntmps8
  go_wp2
  go_ret
  exact ⟨rfl, rfl⟩

/-- Look, plainly. -/
def lookP (H : Hm) (a : Int) : Nd × Int := if hasI H.ns.length a then (H.ns.getD a.toNat nd0, 0) else (nd0, 2)
def partsP (H : Hm) (a : Int) : (Cl × Cl) × Int := if hasI H.ps.length a then (H.ps.getD a.toNat (cl0, cl0), 0) else ((cl0, cl0), 2)

theorem hasI_lt {n : Nat} {a : Int} (h : hasI n a = true) : ∃ i : Nat, a = i ∧ i < n := by
  unfold hasI at h
  have := of_decide_eq_true h
  exact ⟨a.toNat, by omega, by omega⟩

theorem Try.infoNd : (Try.prog.info? 60).map (·.size) = some 6 := by kernel_rfl
theorem Try.infoCl : (Try.prog.info? 55).map (·.size) = some 4 := by kernel_rfl
theorem bk_nd {w : World} {g : Nat} {n : Nd} (h : Bk w g 60 (ndC n)) : w.cell? ⟨g, 0, none⟩ = some (.int .i64 n.s) ∧ w.cell? ⟨g, 1, none⟩ = some (.int .i64 n.t) ∧ w.cell? ⟨g, 2, none⟩ = some (.int .i64 n.c.k) ∧ w.cell? ⟨g, 3, none⟩ = some (.complex .f64 n.c.z.1 n.c.z.2) ∧ w.cell? ⟨g, 4, none⟩ = some (.bool n.c.b) ∧ w.cell? ⟨g, 5, none⟩ = some (.int .i64 n.c.a) :=
  ⟨h.cell 0, h.cell 1, h.cell 2, h.cell 3, h.cell 4, h.cell 5⟩
theorem bk_cl {w : World} {g : Nat} {n : Cl} (h : Bk w g 55 (clC n)) : w.cell? ⟨g, 0, none⟩ = some (.int .i64 n.k) ∧ w.cell? ⟨g, 1, none⟩ = some (.complex .f64 n.z.1 n.z.2) ∧ w.cell? ⟨g, 2, none⟩ = some (.bool n.b) ∧ w.cell? ⟨g, 3, none⟩ = some (.int .i64 n.a) :=
  ⟨h.cell 0, h.cell 1, h.cell 2, h.cell 3⟩
theorem over_nd (n m : Nd) : over (ndC n) 0 (ndC m) = ndC m := rfl
theorem over_cl (n m : Cl) : over (clC n) 0 (clC m) = clC m := rfl
theorem rg_nd {w : World} {g i : Nat} {n : Nd} (h : w.rangeAt g (i * 6) (ndC n)) : w.cell? ⟨g, i * 6, none⟩ = some (.int .i64 n.s) ∧ w.cell? ⟨g, i * 6 + 1, none⟩ = some (.int .i64 n.t) ∧ w.cell? ⟨g, i * 6 + 2, none⟩ = some (.int .i64 n.c.k) ∧ w.cell? ⟨g, i * 6 + 3, none⟩ = some (.complex .f64 n.c.z.1 n.c.z.2) ∧ w.cell? ⟨g, i * 6 + 4, none⟩ = some (.bool n.c.b) ∧ w.cell? ⟨g, i * 6 + 5, none⟩ = some (.int .i64 n.c.a) :=
  ⟨h 0 _ rfl, h 1 _ rfl, h 2 _ rfl, h 3 _ rfl, h 4 _ rfl, h 5 _ rfl⟩

set_option maxHeartbeats 1000000 in
theorem look_any {tP : TypeId} {S : Nat → Prop} {w : World} {b : Nat} {H : Hm} (h : HpW 73 tP S w b H) (a : Int) :
    Calls Try.prog 17 #[.pointer (some ⟨b, 0, none⟩), .int .i64 a] w fun e w' => e = .returned (.tuple #[ndV (lookP H a).1, .int .i64 (lookP H a).2]) ∧ Below w.heap.size w w' := by
  have hn := fun (W : World) (hb : Below w.heap.size w W) => hasN_any (h.up hb) a
  have hb1 : ∀ o, Below w.heap.size w (w.alloc o) := fun o => below_alloc w o
  have hR0 : Bk (w.alloc (.cells #[.int .i64 0, .int .i64 0, .int .i64 0, .complex .f64 0 0, .bool false, .int .i64 0] 60)) w.heap.size 60 (ndC nd0) := Bk.new w 60 #[.int .i64 0, .int .i64 0, .int .i64 0, .complex .f64 0 0, .bool false, .int .i64 0]
  unfold lookP
  cases hN : hasI H.ns.length a with
  | false =>
    rw [hN] at hn
    go_enter Try.func17, Try.ntmps17
    go_wp2_with (first
      | (go_at_call 34; refine (hn _ (hb1 _)).mono ?_; rintro e w' ⟨rfl, rfl⟩)
      | (refine wpList_storeN rfl 60 (.tmp 4) (.tmp 13) rfl w.heap.size 0 (ndC nd0) rfl rfl hR0 (Nat.le_refl 6) Try.infoNd (ndC_one _) ?_; intro w9 hB9 hO9))
    obtain ⟨z0, z1, z2, z3, z4, z5⟩ := bk_nd hB9
    go_wp2
    exact bodyPost_ret (v := .tuple #[ndV nd0, .int .i64 2]) (by simp [results, Try.results17, go_sem, z0, z1, z2, z3, z4, z5, ndV]) rfl ⟨rfl, (hb1 _).trans (hO9.below (Nat.le_refl _))⟩
  | true =>
    rw [hN] at hn
    obtain ⟨i, rfl, hi⟩ := hasI_lt hN
    obtain ⟨hlt, hbS, vn, vp, hB, hR, hP, hS1, hS2⟩ := h
    obtain ⟨g, cap, rfl, hc1, hc2, hr⟩ := hR.at ndC_len nd0 hi
    rw [show ((i : Int)).toNat = i from rfl]
    generalize H.ns.getD i nd0 = n at hr ⊢
    have hB1 := hB.up (hb1 (.cells #[.int .i64 0, .int .i64 0, .int .i64 0, .complex .f64 0 0, .bool false, .int .i64 0] 60))
    have hgl := hlt g (hS1 g rfl)
    have hr1 : (w.alloc (.cells #[.int .i64 0, .int .i64 0, .int .i64 0, .complex .f64 0 0, .bool false, .int .i64 0] 60)).rangeAt g (i * 6) (ndC n) := fun j u hj => by
      rw [← hr j u hj]
      exact World.cell?_of_block ((hb1 _).block g hgl)
    have c0 : (w.alloc (.cells #[.int .i64 0, .int .i64 0, .int .i64 0, .complex .f64 0 0, .bool false, .int .i64 0] 60)).cell? ⟨b, 0, none⟩ = some (.slice (some ⟨g, 0, none⟩) H.ns.length cap) := hB1.cell 0
    clear hB hR hP hB1 hS1 hS2 hlt hbS
    go_enter Try.func17, Try.ntmps17
    go_wp2_with fail
    refine (hn _ (hb1 _)).mono ?_
    rintro e w' ⟨rfl, rfl⟩
    have hb0 := hb1 (.cells #[.int .i64 0, .int .i64 0, .int .i64 0, .complex .f64 0 0, .bool false, .int .i64 0] 60)
    clear hn hb1
    generalize w.alloc (.cells #[.int .i64 0, .int .i64 0, .int .i64 0, .complex .f64 0 0, .bool false, .int .i64 0] 60) = W at *
    go_wp2_with (first
      | (refine wpList_loadN rfl 60 (.tmp 19) rfl g (i * 6) (by simp [go_sem, Nat.zero_add]) (ndC n) _ hr1 Try.underlying60 Try.infoNd ?_)
      | (refine wpList_storeN rfl 60 (.tmp 4) (.tmp 20) rfl w.heap.size 0 (ndC n) rfl rfl hR0 (Nat.le_refl 6) Try.infoNd (ndC_one _) ?_; intro w9 hB9 hO9))
    obtain ⟨z0, z1, z2, z3, z4, z5⟩ := bk_nd hB9
    go_wp2
    exact bodyPost_ret (v := .tuple #[ndV n, .int .i64 0]) (by simp [results, Try.results17, go_sem, z0, z1, z2, z3, z4, z5, ndV]) rfl ⟨rfl, hb0.trans (hO9.below (Nat.le_refl _))⟩
end Go.Proofs.Ytdbnlgjpfkfnjaa
