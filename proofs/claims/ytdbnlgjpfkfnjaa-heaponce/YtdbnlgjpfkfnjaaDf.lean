/-
  A heap's calls: nodes entered and updated.
-/
import Derived.Test.YtdbnlgjpfkfnjaaDe
namespace Go.Proofs.Ytdbnlgjpfkfnjaa
open Go.RowKit
open Go.Lib
set_option maxRecDepth 100000

/-- A node of a heap written anew. -/
theorem node_set {tH tP : TypeId} (hT : Tys tH tP) {S : Nat → Prop} {w : World} {b : Nat} {H : Hm} {g cap : Nat} (h1 : ∀ k, S k → k < w.heap.size) (h2 : S b) {vp : Value} (hB : Bk w b tH [.slice (some ⟨g, 0, none⟩) H.ns.length cap, vp, .int .i64 H.th, .int .i64 H.up]) (hN : Rows_ w 60 6 ndC (.slice (some ⟨g, 0, none⟩) H.ns.length cap) H.ns) (hP : Rows_ w tP 8 prC vp H.ps) (h3 : ∀ k, (Value.slice (some ⟨g, 0, none⟩) H.ns.length cap).ownBlock = some k → S k) (h4 : ∀ k, vp.ownBlock = some k → S k)
    {i : Nat} (hi : i < H.ns.length) (y : Nd) {W : World} (hW : Below w.heap.size w W) : W.there g (i * 6) 6 ∧ ButS S w (W.setCells g (i * 6) (ndC y)) ∧ HpW tH tP S (W.setCells g (i * 6) (ndC y)) b { H with ns := H.ns.set i y } ∧ Oth g W (W.setCells g (i * 6) (ndC y)) ∧ g < w.heap.size := by
  have hN' : Rows_ W 60 6 ndC (.slice (some ⟨g, 0, none⟩) H.ns.length cap) H.ns := hN.keep fun g hg => hW.block g (hN.lt hg)
  have hP' : Rows_ W tP 8 prC vp H.ps := hP.keep fun g hg => hW.block g (hP.lt hg)
  obtain ⟨hth, hR, hO⟩ := hN'.set ndC_len hi y
  have hne : g ≠ b := fun e => owns_ne hN hB hT.hn (by rw [e]; rfl)
  have hB2 := (hB.up hW).oth hO hne.symm
  have hgS : S g := h3 g rfl
  refine ⟨hth, (ButS.below hW).trans ((ButS.oth hO).mono fun k e => by rw [e]; exact hgS), ⟨fun k hk => ?_, h2, .slice (some ⟨g, 0, none⟩) H.ns.length cap, vp, ?_, ?_, hP'.keep fun k hk => hO.block k fun e => rows_two hN hP hT.pn hk (by rw [e]; rfl), h3, h4⟩, hO, h1 g hgS⟩
  · rw [hO.size]
    have := h1 k hk
    have := hW.size
    omega
  · exact hB2
  · exact hR

/-- A block that is none of a heap's is written. -/
theorem HpW.oth {tH tP : TypeId} {S : Nat → Prop} {w w' : World} {b g : Nat} {H : Hm} (h : HpW tH tP S w b H) (hO : Oth g w w') (hg : ¬ S g) : HpW tH tP S w' b H :=
  h.keep (by rw [hO.size]; exact Nat.le_refl _) fun k hk => hO.block k fun e => hg (by rw [← e]; exact hk)
theorem ButS.thenOth {S : Nat → Prop} {w w1 w' : World} {g : Nat} (h : ButS S w w1) (hO : Oth g w1 w') (hg : w.heap.size ≤ g) : ButS S w w' :=
  ⟨hO.os.trans h.os, hO.tape.trans h.tape, hO.output.trans h.output, by rw [hO.size]; exact h.size, fun k hk hn => (hO.block k (by omega)).trans (h.block k hk hn)⟩
theorem hpN_of {tH tP : TypeId} {S : Nat → Prop} {w w' : World} {b : Nat} {H : Hm} (hU : ButS S w w') (h : HpW tH tP S w' b H) : HpN tH tP S w w' b H :=
  ⟨hU, h.mono (fun _ hk => .inl hk) fun k hk => hk.elim (h.lt k) fun h' => h'.2⟩
/-- Enter, plainly. -/
def enterP (H : Hm) (a : Int) : (Nd × Int) × Hm :=
  if (lookP H a).2 ≠ 0 then ((nd0, (lookP H a).2), H) else if (lookP H a).1.s = 2 then ((nd0, 53), H) else if (lookP H a).1.s = 4 then ((nd0, 54), H)
  else if (lookP H a).1.s = 1 then (((lookP H a).1, 0), { H with ns := H.ns.set a.toNat ⟨2, 0, cl0⟩ }) else (((lookP H a).1, 0), H)

theorem look_cases (H : Hm) (a : Int) : lookP H a = (nd0, 2) ∨ ∃ i : Nat, a = i ∧ i < H.ns.length ∧ lookP H a = (H.ns.getD i nd0, 0) := by
  unfold lookP
  cases hN : hasI H.ns.length a with
  | false => left; simp
  | true =>
    obtain ⟨i, rfl, hi⟩ := hasI_lt hN
    right
    exact ⟨i, rfl, hi, by simp⟩
set_option maxHeartbeats 2000000 in
theorem enter_no {S : Nat → Prop} {w : World} {b : Nat} {H : Hm} (h : HpW 73 87 S w b H) (a : Int) (hl : lookP H a = (nd0, 2)) :
    Calls Try.prog 18 #[.pointer (some ⟨b, 0, none⟩), .int .i64 a] w fun e w' => e = .returned (.tuple #[ndV nd0, .int .i64 2]) ∧ HpN 73 87 S w w' b H := by
  have hL := fun (W : World) (hb : Below w.heap.size w W) => look_any (h.up hb) a
  rw [hl] at hL
  dsimp only at hL
  clear hl
  have hb1 := below_alloc w (.cells #[.int .i64 0, .int .i64 0, .int .i64 0, .complex .f64 0 0, .bool false, .int .i64 0] 60)
  have hR0 : Bk (w.alloc (.cells #[.int .i64 0, .int .i64 0, .int .i64 0, .complex .f64 0 0, .bool false, .int .i64 0] 60)) w.heap.size 60 (ndC nd0) := Bk.new w 60 #[.int .i64 0, .int .i64 0, .int .i64 0, .complex .f64 0 0, .bool false, .int .i64 0]
  go_enter Try.func18, Try.ntmps18
  go_wp2_with fail
  refine (hL _ hb1).mono ?_
  rintro e w2 ⟨rfl, hb2⟩
  have hR2 := hR0.up hb2
  have hb3 := Below.thn hb1 hb2
  clear hL hb1 hR0 hb2
  generalize w.alloc (.cells #[.int .i64 0, .int .i64 0, .int .i64 0, .complex .f64 0 0, .bool false, .int .i64 0] 60) = w1 at *
  have hN0 : Bk (w2.alloc (.cells #[.int .i64 0, .int .i64 0, .int .i64 0, .complex .f64 0 0, .bool false, .int .i64 0] 60)) w2.heap.size 60 (ndC nd0) := Bk.new w2 60 #[.int .i64 0, .int .i64 0, .int .i64 0, .complex .f64 0 0, .bool false, .int .i64 0]
  have hb4 := Below.thn hb3 (below_alloc w2 (.cells #[.int .i64 0, .int .i64 0, .int .i64 0, .complex .f64 0 0, .bool false, .int .i64 0] 60))
  have hR4 := hR2.up (below_alloc w2 (.cells #[.int .i64 0, .int .i64 0, .int .i64 0, .complex .f64 0 0, .bool false, .int .i64 0] 60))
  have hlt := hR2.lt
  go_wp2_with (first
    | (refine wpList_storeN rfl 60 (.tmp 6) (.tmp 12) rfl w2.heap.size 0 (ndC nd0) rfl rfl hN0 (Nat.le_refl 6) Try.infoNd (ndC_one _) ?_; intro w3 hN3 hO3; have hR3 := hR4.oth hO3 (by omega); have n0 : w3.cell? ⟨w2.heap.size, 0, none⟩ = some (.int .i64 (nd0).s) := hN3.cell 0)
    | (refine wpList_storeN rfl 60 (.tmp 4) (.tmp 16) rfl w.heap.size 0 (ndC nd0) rfl rfl hR3 (Nat.le_refl 6) Try.infoNd (ndC_one _) ?_; intro w5 hR5 hO5))
  obtain ⟨z0, z1, z2, z3, z4, z5⟩ := bk_nd hR5
  go_wp2
  exact bodyPost_ret (v := .tuple #[ndV nd0, .int .i64 2]) (by simp [results, Try.results18, go_sem, z0, z1, z2, z3, z4, z5, ndV]) rfl ⟨rfl, h.toN ((hb4.trans (hO3.below (by omega))).trans (hO5.below (Nat.le_refl _)))⟩
set_option maxHeartbeats 2000000 in
theorem enter_black {S : Nat → Prop} {w : World} {b : Nat} {H : Hm} (h : HpW 73 87 S w b H) (a : Int) {n : Nd} (hs : n.s = 2) (hl : lookP H a = (n, 0)) :
    Calls Try.prog 18 #[.pointer (some ⟨b, 0, none⟩), .int .i64 a] w fun e w' => e = .returned (.tuple #[ndV nd0, .int .i64 53]) ∧ HpN 73 87 S w w' b H := by
  have hL := fun (W : World) (hb : Below w.heap.size w W) => look_any (h.up hb) a
  rw [hl] at hL
  dsimp only at hL
  clear hl
  have hb1 := below_alloc w (.cells #[.int .i64 0, .int .i64 0, .int .i64 0, .complex .f64 0 0, .bool false, .int .i64 0] 60)
  have hR0 : Bk (w.alloc (.cells #[.int .i64 0, .int .i64 0, .int .i64 0, .complex .f64 0 0, .bool false, .int .i64 0] 60)) w.heap.size 60 (ndC nd0) := Bk.new w 60 #[.int .i64 0, .int .i64 0, .int .i64 0, .complex .f64 0 0, .bool false, .int .i64 0]
  go_enter Try.func18, Try.ntmps18
  go_wp2_with fail
  refine (hL _ hb1).mono ?_
  rintro e w2 ⟨rfl, hb2⟩
  have hR2 := hR0.up hb2
  have hb3 := Below.thn hb1 hb2
  clear hL hb1 hR0 hb2
  generalize w.alloc (.cells #[.int .i64 0, .int .i64 0, .int .i64 0, .complex .f64 0 0, .bool false, .int .i64 0] 60) = w1 at *
  have hN0 : Bk (w2.alloc (.cells #[.int .i64 0, .int .i64 0, .int .i64 0, .complex .f64 0 0, .bool false, .int .i64 0] 60)) w2.heap.size 60 (ndC nd0) := Bk.new w2 60 #[.int .i64 0, .int .i64 0, .int .i64 0, .complex .f64 0 0, .bool false, .int .i64 0]
  have hb4 := Below.thn hb3 (below_alloc w2 (.cells #[.int .i64 0, .int .i64 0, .int .i64 0, .complex .f64 0 0, .bool false, .int .i64 0] 60))
  have hR4 := hR2.up (below_alloc w2 (.cells #[.int .i64 0, .int .i64 0, .int .i64 0, .complex .f64 0 0, .bool false, .int .i64 0] 60))
  have hlt := hR2.lt
  go_wp2_with (first
    | (refine wpList_storeN rfl 60 (.tmp 6) (.tmp 12) rfl w2.heap.size 0 (ndC n) rfl rfl hN0 (Nat.le_refl 6) Try.infoNd (ndC_one _) ?_; intro w3 hN3 hO3; have hR3 := hR4.oth hO3 (by omega); have n0 : w3.cell? ⟨w2.heap.size, 0, none⟩ = some (.int .i64 (n).s) := hN3.cell 0; rw [hs] at n0)
    | (refine wpList_storeN rfl 60 (.tmp 4) (.tmp 22) rfl w.heap.size 0 (ndC nd0) rfl rfl hR3 (Nat.le_refl 6) Try.infoNd (ndC_one _) ?_; intro w5 hR5 hO5))
  obtain ⟨z0, z1, z2, z3, z4, z5⟩ := bk_nd hR5
  go_wp2
  exact bodyPost_ret (v := .tuple #[ndV nd0, .int .i64 53]) (by simp [results, Try.results18, go_sem, z0, z1, z2, z3, z4, z5, ndV]) rfl ⟨rfl, h.toN ((hb4.trans (hO3.below (by omega))).trans (hO5.below (Nat.le_refl _)))⟩
set_option maxHeartbeats 2000000 in
theorem enter_poison {S : Nat → Prop} {w : World} {b : Nat} {H : Hm} (h : HpW 73 87 S w b H) (a : Int) {n : Nd} (hs : n.s = 4) (hl : lookP H a = (n, 0)) :
    Calls Try.prog 18 #[.pointer (some ⟨b, 0, none⟩), .int .i64 a] w fun e w' => e = .returned (.tuple #[ndV nd0, .int .i64 54]) ∧ HpN 73 87 S w w' b H := by
  have hL := fun (W : World) (hb : Below w.heap.size w W) => look_any (h.up hb) a
  rw [hl] at hL
  dsimp only at hL
  clear hl
  have hb1 := below_alloc w (.cells #[.int .i64 0, .int .i64 0, .int .i64 0, .complex .f64 0 0, .bool false, .int .i64 0] 60)
  have hR0 : Bk (w.alloc (.cells #[.int .i64 0, .int .i64 0, .int .i64 0, .complex .f64 0 0, .bool false, .int .i64 0] 60)) w.heap.size 60 (ndC nd0) := Bk.new w 60 #[.int .i64 0, .int .i64 0, .int .i64 0, .complex .f64 0 0, .bool false, .int .i64 0]
  go_enter Try.func18, Try.ntmps18
  go_wp2_with fail
  refine (hL _ hb1).mono ?_
  rintro e w2 ⟨rfl, hb2⟩
  have hR2 := hR0.up hb2
  have hb3 := Below.thn hb1 hb2
  clear hL hb1 hR0 hb2
  generalize w.alloc (.cells #[.int .i64 0, .int .i64 0, .int .i64 0, .complex .f64 0 0, .bool false, .int .i64 0] 60) = w1 at *
  have hN0 : Bk (w2.alloc (.cells #[.int .i64 0, .int .i64 0, .int .i64 0, .complex .f64 0 0, .bool false, .int .i64 0] 60)) w2.heap.size 60 (ndC nd0) := Bk.new w2 60 #[.int .i64 0, .int .i64 0, .int .i64 0, .complex .f64 0 0, .bool false, .int .i64 0]
  have hb4 := Below.thn hb3 (below_alloc w2 (.cells #[.int .i64 0, .int .i64 0, .int .i64 0, .complex .f64 0 0, .bool false, .int .i64 0] 60))
  have hR4 := hR2.up (below_alloc w2 (.cells #[.int .i64 0, .int .i64 0, .int .i64 0, .complex .f64 0 0, .bool false, .int .i64 0] 60))
  have hlt := hR2.lt
  go_wp2_with (first
    | (refine wpList_storeN rfl 60 (.tmp 6) (.tmp 12) rfl w2.heap.size 0 (ndC n) rfl rfl hN0 (Nat.le_refl 6) Try.infoNd (ndC_one _) ?_; intro w3 hN3 hO3; have hR3 := hR4.oth hO3 (by omega); have n0 : w3.cell? ⟨w2.heap.size, 0, none⟩ = some (.int .i64 (n).s) := hN3.cell 0; rw [hs] at n0)
    | (refine wpList_storeN rfl 60 (.tmp 4) (.tmp 25) rfl w.heap.size 0 (ndC nd0) rfl rfl hR3 (Nat.le_refl 6) Try.infoNd (ndC_one _) ?_; intro w5 hR5 hO5))
  obtain ⟨z0, z1, z2, z3, z4, z5⟩ := bk_nd hR5
  go_wp2
  exact bodyPost_ret (v := .tuple #[ndV nd0, .int .i64 54]) (by simp [results, Try.results18, go_sem, z0, z1, z2, z3, z4, z5, ndV]) rfl ⟨rfl, h.toN ((hb4.trans (hO3.below (by omega))).trans (hO5.below (Nat.le_refl _)))⟩
set_option maxHeartbeats 2000000 in
theorem enter_done {S : Nat → Prop} {w : World} {b : Nat} {H : Hm} (h : HpW 73 87 S w b H) (a : Int) {n : Nd} (h2 : n.s ≠ 2) (h4 : n.s ≠ 4) (h1 : n.s ≠ 1) (hl : lookP H a = (n, 0)) :
    Calls Try.prog 18 #[.pointer (some ⟨b, 0, none⟩), .int .i64 a] w fun e w' => e = .returned (.tuple #[ndV n, .int .i64 0]) ∧ HpN 73 87 S w w' b H := by
  have hL := fun (W : World) (hb : Below w.heap.size w W) => look_any (h.up hb) a
  rw [hl] at hL
  dsimp only at hL
  clear hl
  have hb1 := below_alloc w (.cells #[.int .i64 0, .int .i64 0, .int .i64 0, .complex .f64 0 0, .bool false, .int .i64 0] 60)
  have hR0 : Bk (w.alloc (.cells #[.int .i64 0, .int .i64 0, .int .i64 0, .complex .f64 0 0, .bool false, .int .i64 0] 60)) w.heap.size 60 (ndC nd0) := Bk.new w 60 #[.int .i64 0, .int .i64 0, .int .i64 0, .complex .f64 0 0, .bool false, .int .i64 0]
  go_enter Try.func18, Try.ntmps18
  go_wp2_with fail
  refine (hL _ hb1).mono ?_
  rintro e w2 ⟨rfl, hb2⟩
  have hR2 := hR0.up hb2
  have hb3 := Below.thn hb1 hb2
  clear hL hb1 hR0 hb2
  generalize w.alloc (.cells #[.int .i64 0, .int .i64 0, .int .i64 0, .complex .f64 0 0, .bool false, .int .i64 0] 60) = w1 at *
  have hN0 : Bk (w2.alloc (.cells #[.int .i64 0, .int .i64 0, .int .i64 0, .complex .f64 0 0, .bool false, .int .i64 0] 60)) w2.heap.size 60 (ndC nd0) := Bk.new w2 60 #[.int .i64 0, .int .i64 0, .int .i64 0, .complex .f64 0 0, .bool false, .int .i64 0]
  have hb4 := Below.thn hb3 (below_alloc w2 (.cells #[.int .i64 0, .int .i64 0, .int .i64 0, .complex .f64 0 0, .bool false, .int .i64 0] 60))
  have hR4 := hR2.up (below_alloc w2 (.cells #[.int .i64 0, .int .i64 0, .int .i64 0, .complex .f64 0 0, .bool false, .int .i64 0] 60))
  have hlt := hR2.lt
  go_wp2_with (first
    | (refine wpList_storeN rfl 60 (.tmp 6) (.tmp 12) rfl w2.heap.size 0 (ndC n) rfl rfl hN0 (Nat.le_refl 6) Try.infoNd (ndC_one _) ?_; intro w3 hN3 hO3; have hR3 := hR4.oth hO3 (by omega); have n0 : w3.cell? ⟨w2.heap.size, 0, none⟩ = some (.int .i64 n.s) := hN3.cell 0; rw [over_nd] at hN3)
    | (refine wpList_loadN rfl 60 (.tmp 6) rfl w2.heap.size 0 rfl (ndC n) _ (hN3.range 0 6) Try.underlying60 Try.infoNd ?_)
    | (refine wpList_storeN rfl 60 (.tmp 4) (.tmp 35) rfl w.heap.size 0 (ndC n) rfl rfl hR3 (Nat.le_refl 6) Try.infoNd (ndC_one _) ?_; intro w6 hR6 hO6))
  obtain ⟨z0, z1, z2, z3, z4, z5⟩ := bk_nd hR6
  go_wp2
  exact bodyPost_ret (v := .tuple #[ndV n, .int .i64 0]) (by simp [results, Try.results18, go_sem, z0, z1, z2, z3, z4, z5, ndV]) rfl ⟨rfl, h.toN ((hb4.trans (hO3.below (by omega))).trans (hO6.below (Nat.le_refl _)))⟩
set_option maxHeartbeats 2000000 in
theorem enter_delayed {S : Nat → Prop} {w : World} {b : Nat} {H : Hm} (h : HpW 73 87 S w b H) (a : Int) {i : Nat} {n : Nd} (ha : a = i) (hi : i < H.ns.length) (h1 : n.s = 1) (hl : lookP H a = (n, 0)) :
    Calls Try.prog 18 #[.pointer (some ⟨b, 0, none⟩), .int .i64 a] w fun e w' => e = .returned (.tuple #[ndV n, .int .i64 0]) ∧ HpN 73 87 S w w' b { H with ns := H.ns.set i ⟨2, 0, cl0⟩ } := by
  have hL := fun (W : World) (hb : Below w.heap.size w W) => look_any (h.up hb) a
  rw [hl] at hL
  dsimp only at hL
  clear hl
  subst ha
  have hb1 := below_alloc w (.cells #[.int .i64 0, .int .i64 0, .int .i64 0, .complex .f64 0 0, .bool false, .int .i64 0] 60)
  have hR0 : Bk (w.alloc (.cells #[.int .i64 0, .int .i64 0, .int .i64 0, .complex .f64 0 0, .bool false, .int .i64 0] 60)) w.heap.size 60 (ndC nd0) := Bk.new w 60 #[.int .i64 0, .int .i64 0, .int .i64 0, .complex .f64 0 0, .bool false, .int .i64 0]
  go_enter Try.func18, Try.ntmps18
  go_wp2_with fail
  refine (hL _ hb1).mono ?_
  rintro e w2 ⟨rfl, hb2⟩
  have hR2 := hR0.up hb2
  have hb3 := Below.thn hb1 hb2
  clear hL hb1 hR0 hb2
  generalize w.alloc (.cells #[.int .i64 0, .int .i64 0, .int .i64 0, .complex .f64 0 0, .bool false, .int .i64 0] 60) = w1 at *
  have hN0 : Bk (w2.alloc (.cells #[.int .i64 0, .int .i64 0, .int .i64 0, .complex .f64 0 0, .bool false, .int .i64 0] 60)) w2.heap.size 60 (ndC nd0) := Bk.new w2 60 #[.int .i64 0, .int .i64 0, .int .i64 0, .complex .f64 0 0, .bool false, .int .i64 0]
  have hb4 := Below.thn hb3 (below_alloc w2 (.cells #[.int .i64 0, .int .i64 0, .int .i64 0, .complex .f64 0 0, .bool false, .int .i64 0] 60))
  have hR4 := hR2.up (below_alloc w2 (.cells #[.int .i64 0, .int .i64 0, .int .i64 0, .complex .f64 0 0, .bool false, .int .i64 0] 60))
  have hlt := hR2.lt
  obtain ⟨g1, g2, vn, vp, hB, hN, hP, g3, g4⟩ := h
  obtain ⟨g, cap, rfl, hc1, hc2, _⟩ := hN.at ndC_len nd0 hi
  have HS : Hid (∀ W, Below w.heap.size w W → W.there g (i * 6) 6 ∧ ButS S w (W.setCells g (i * 6) (ndC ⟨2, 0, cl0⟩)) ∧ HpW 73 87 S (W.setCells g (i * 6) (ndC ⟨2, 0, cl0⟩)) b { H with ns := H.ns.set i ⟨2, 0, cl0⟩ } ∧ Oth g W (W.setCells g (i * 6) (ndC ⟨2, 0, cl0⟩)) ∧ g < w.heap.size) := fun W hW => node_set tysP g1 g2 hB hN hP g3 g4 hi ⟨2, 0, cl0⟩ hW
  have G1 : Hid (∀ k, S k → k < w.heap.size) := g1
  clear g1 g2 g3 g4 hN hP
  go_upto_region 2 with (refine wpList_storeN rfl 60 (.tmp 6) (.tmp 12) rfl w2.heap.size 0 (ndC n) rfl rfl hN0 (Nat.le_refl 6) Try.infoNd (ndC_one _) ?_; intro w3 hN3 hO3)
  rw [over_nd] at hN3
  have hR3 := hR4.oth hO3 (by omega)
  have n0 : w3.cell? ⟨w2.heap.size, 0, none⟩ = some (.int .i64 n.s) := hN3.cell 0
  rw [h1] at n0
  have hb5 := hb4.trans (hO3.below (by omega : w.heap.size ≤ w2.heap.size))
  obtain ⟨hth, hU4, hH, hO4, hgl⟩ := HS.out _ hb5
  have HU4 : Hid (ButS _ _ _) := hU4
  have HH : Hid (HpW _ _ _ _ _ _) := hH
  have c0 : w3.cell? ⟨b, 0, none⟩ = some (.slice (some ⟨g, 0, none⟩) H.ns.length cap) := (hB.up hb5).cell 0
  have hR4' := hR3.oth hO4 (by omega)
  have hN4 := hN3.oth hO4 (by omega)
  clear hN0 hR4 hR2 hB hU4 hH HS hO3 hO4 hb5 hb4 hb3 hR3 hN3
  obtain ⟨w4, hw4⟩ : ∃ w4, w4 = w3.setCells g (i * 6) (ndC ⟨2, 0, cl0⟩) := ⟨_, rfl⟩
  rw [← hw4] at HU4 HH hR4' hN4
  have HW4 : Hid (w4 = w3.setCells g (i * 6) (ndC ⟨2, 0, cl0⟩)) := hw4
  clear hw4
  go_upto_region 10 with fail
  go_wp2_with (first
    | (refine wpList_store_mid rfl 60 (.tmp 34) (.tmp 33) rfl g (i * 6) (ndC ⟨2, 0, cl0⟩).toArray rfl rfl hth Try.infoNd (all_oneCell_toArray (ndC_one _)) ?_; rw [show w3.setCells g (i * 6) (Array.toList (ndC ⟨2, 0, cl0⟩).toArray) = w4 from HW4.out.symm])
    | (refine wpList_loadN rfl 60 (.tmp 6) rfl w2.heap.size 0 rfl (ndC n) _ (hN4.range 0 6) Try.underlying60 Try.infoNd ?_)
    | (refine wpList_storeN rfl 60 (.tmp 4) (.tmp 35) rfl w.heap.size 0 (ndC n) rfl rfl hR4' (Nat.le_refl 6) Try.infoNd (ndC_one _) ?_; intro w6 hR6 hO6))
  obtain ⟨z0, z1, z2, z3, z4, z5⟩ := bk_nd hR6
  go_wp2
  exact bodyPost_ret (v := .tuple #[ndV n, .int .i64 0]) (by simp [results, Try.results18, go_sem, z0, z1, z2, z3, z4, z5, ndV]) rfl ⟨rfl, hpN_of (HU4.out.thenOth hO6 (Nat.le_refl _)) (HH.out.oth hO6 fun e => by have := G1.out _ e; omega)⟩
theorem enter_any {S : Nat → Prop} {w : World} {b : Nat} {H : Hm} (h : HpW 73 87 S w b H) (a : Int) :
    Calls Try.prog 18 #[.pointer (some ⟨b, 0, none⟩), .int .i64 a] w fun e w' => e = .returned (.tuple #[ndV (enterP H a).1.1, .int .i64 (enterP H a).1.2]) ∧ HpN 73 87 S w w' b (enterP H a).2 := by
  unfold enterP
  rcases look_cases H a with e | ⟨i, rfl, hi, e⟩
  · rw [e]
    exact enter_no h a e
  · by_cases h2 : (H.ns.getD i nd0).s = 2
    · rw [e, if_neg (by simp), if_pos h2]
      exact enter_black h i h2 e
    · by_cases h4 : (H.ns.getD i nd0).s = 4
      · rw [e, if_neg (by simp), if_neg h2, if_pos h4]
        exact enter_poison h i h4 e
      · by_cases h1 : (H.ns.getD i nd0).s = 1
        · rw [e, if_neg (by simp), if_neg h2, if_neg h4, if_pos h1]
          exact enter_delayed h i rfl hi h1 e
        · rw [e, if_neg (by simp), if_neg h2, if_neg h4, if_neg h1]
          exact enter_done h i h2 h4 h1 e
end Go.Proofs.Ytdbnlgjpfkfnjaa
