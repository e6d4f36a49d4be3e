/-
  A law's cells; cells and nodes held against one another.
-/
import Derived.Test.YtdbnlgjpfkfnjaaDi
import Derived.Deep.RegionHeld3
namespace Go.Proofs.Ytdbnlgjpfkfnjaa
open Go.RowKit
open Go.Lib
set_option maxRecDepth 100000

/-- Two cells, two nodes: are they one? -/
def sameC (c d : Cl) : Bool := decide (c.k = d.k) && feW c.z d.z && (c.b == d.b) && decide (c.a = d.a)
def alikeN (n m : Nd) : Bool := decide (n.s = m.s) && decide (n.t = m.t) && sameC n.c m.c
theorem Int.beq_eq_decide (a b : Int) : (a == b) = decide (a = b) := by
  by_cases h : a = b
  · rw [h]; simp
  · rw [decide_eq_false h]; simpa using h
theorem sameC_refl {c : Cl} (h : vc c.z.1 c.z.2 = true) : sameC c c = true := by
  unfold sameC
  rw [feW_vc h h]
  simp
theorem alikeN_refl {n : Nd} (h : vc n.c.z.1 n.c.z.2 = true) : alikeN n n = true := by
  unfold alikeN
  rw [sameC_refl h]
  simp

set_option maxHeartbeats 1000000 in
theorem same_any (c d : Cl) (w : World) :
    Calls Try.prog 19 #[clV c, clV d] w fun e w' => e = .returned (.bool (sameC c d)) ∧ Below w.heap.size w w' := by
  obtain ⟨k, ⟨x, y⟩, r, a⟩ := c
  obtain ⟨k', ⟨x', y'⟩, r', a'⟩ := d
  unfold clV sameC feW
  dsimp only
  have hb : ∀ o o', Below w.heap.size w ((w.alloc o).alloc o') := fun o o' => Below.thn (below_alloc _ _) (below_alloc _ _)
  unfold Op.floatEq
  go_enter Try.func19, Try.ntmps19
  go_wp2
  all_goals
    go_ret
    refine ⟨ret_bool ?_, hb _ _⟩
    simp_all [Int.beq_eq_decide]

set_option maxHeartbeats 1000000 in
theorem alike_any (n m : Nd) (w : World) :
    Calls Try.prog 22 #[ndV n, ndV m] w fun e w' => e = .returned (.bool (alikeN n m)) ∧ Below w.heap.size w w' := by
  have hs := fun W => same_any n.c m.c W
  obtain ⟨s, t, ⟨k, ⟨x, y⟩, r, a⟩⟩ := n
  obtain ⟨s', t', ⟨k', ⟨x', y'⟩, r', a'⟩⟩ := m
  unfold ndV alikeN
  unfold clV at hs
  dsimp only at hs ⊢
  generalize sameC ⟨k, (x, y), r, a⟩ ⟨k', (x', y'), r', a'⟩ = E at hs ⊢
  have hb : ∀ o o', Below w.heap.size w ((w.alloc o).alloc o') := fun o o' => Below.thn (below_alloc _ _) (below_alloc _ _)
  by_cases h1 : s = s'
  · by_cases h2 : t = t'
    · go_enter Try.func22, Try.ntmps22
      go_wp2_with (go_at_call 19; refine (hs _).mono ?_; rintro e w' ⟨rfl, hb'⟩)
      all_goals
        go_ret
        exact ⟨ret_bool (by simp_all), Below.thn (hb _ _) hb'⟩
    · go_enter Try.func22, Try.ntmps22
      go_wp2
      all_goals
        go_ret
        exact ⟨ret_bool (by simp_all), hb _ _⟩
  · go_enter Try.func22, Try.ntmps22
    go_wp2
    all_goals
      go_ret
      exact ⟨ret_bool (by simp_all), hb _ _⟩

/-- A law's cell. -/
structure Lc where
  k : Int
  a : Int
  x : Int
  y : Int
  r : Bool
  b : Bool
def lcV (c : Lc) : Value := .agg #[.int .i64 c.k, .int .i64 c.a, .int .i64 c.x, .int .i64 c.y, .bool c.r, .bool c.b]
def lcP (c : Lc) : Cl := ⟨c.k, (zb c.r c.x, zb c.r c.y), c.b, c.a⟩
theorem lcP_lt (c : Lc) : ltZ (lcP c).z := ⟨zb_lt _ _, zb_lt _ _⟩
theorem z_bel (x y : Int) (r : Bool) (w : World) : Calls Try.prog 32 #[.agg #[.int .i64 x, .int .i64 y, .bool r]] w fun e w' => e = .returned (.complex .f64 (zb r x) (zb r y)) ∧ Below w.heap.size w w' :=
  (z_any x y r w).mono fun e w' ⟨h1, n, h2⟩ => ⟨h1, by
    have h := below_alloc w (.cells #[.int .i64 x, .int .i64 y, .bool r] 33)
    rw [h2]
    exact ⟨h.os, h.tape, h.output, h.size, h.block⟩⟩
set_option maxHeartbeats 1000000 in
theorem c_any (c : Lc) (w : World) :
    Calls Try.prog 15 #[lcV c] w fun e w' => e = .returned (clV (lcP c)) ∧ Below w.heap.size w w' := by
  obtain ⟨k, a, x, y, r, b⟩ := c
  unfold lcV clV lcP
  dsimp only
  have hZ := fun W => z_bel x y r W
  generalize zb r x = p at *
  generalize zb r y = q at *
  have hb0 : Below w.heap.size w ((w.alloc (.cells #[.int .i64 k, .int .i64 a, .int .i64 x, .int .i64 y, .bool r, .bool b] 35)).alloc (.cells #[.int .i64 0, .complex .f64 0 0, .bool false, .int .i64 0] 55)) := Below.thn (below_alloc _ _) (below_alloc _ _)
  have hX0 := (Bk.new w 35 #[.int .i64 k, .int .i64 a, .int .i64 x, .int .i64 y, .bool r, .bool b]).up (below_alloc _ (.cells #[.int .i64 0, .complex .f64 0 0, .bool false, .int .i64 0] 55))
  have hR0 : Bk ((w.alloc (.cells #[.int .i64 k, .int .i64 a, .int .i64 x, .int .i64 y, .bool r, .bool b] 35)).alloc (.cells #[.int .i64 0, .complex .f64 0 0, .bool false, .int .i64 0] 55)) (w.heap.size + 1) 55 (clC cl0) := by
    have := Bk.new (w.alloc (.cells #[.int .i64 k, .int .i64 a, .int .i64 x, .int .i64 y, .bool r, .bool b] 35)) 55 #[.int .i64 0, .complex .f64 0 0, .bool false, .int .i64 0]
    rw [show (w.alloc (.cells #[.int .i64 k, .int .i64 a, .int .i64 x, .int .i64 y, .bool r, .bool b] 35)).heap.size = w.heap.size + 1 by simp] at this
    exact this
  go_enter Try.func15, Try.ntmps15
  go_upto_region 1 with fail
  generalize (w.alloc (.cells #[.int .i64 k, .int .i64 a, .int .i64 x, .int .i64 y, .bool r, .bool b] 35)).alloc (.cells #[.int .i64 0, .complex .f64 0 0, .bool false, .int .i64 0] 55) = W at *
  have k0 : W.drew.cell? ⟨w.heap.size, 0, none⟩ = some (.int .i64 k) ∧ W.drew.cell? ⟨w.heap.size, 1, none⟩ = some (.int .i64 a) ∧ W.drew.cell? ⟨w.heap.size, 2, none⟩ = some (.int .i64 x) ∧ W.drew.cell? ⟨w.heap.size, 3, none⟩ = some (.int .i64 y) ∧ W.drew.cell? ⟨w.heap.size, 4, none⟩ = some (.bool r) ∧ W.drew.cell? ⟨w.heap.size, 5, none⟩ = some (.bool b) := ⟨hX0.cell 0, hX0.cell 1, hX0.cell 2, hX0.cell 3, hX0.cell 4, hX0.cell 5⟩
  have hcx := fun W a => store_cx W a p q
  go_region_held3 (fun X => X.cell? ⟨w.heap.size, 0, none⟩ = some (.int .i64 k) ∧ X.cell? ⟨w.heap.size, 1, none⟩ = some (.int .i64 a) ∧ X.cell? ⟨w.heap.size, 2, none⟩ = some (.int .i64 x) ∧ X.cell? ⟨w.heap.size, 3, none⟩ = some (.int .i64 y) ∧ X.cell? ⟨w.heap.size, 4, none⟩ = some (.bool r) ∧ X.cell? ⟨w.heap.size, 5, none⟩ = some (.bool b)) (first | with_reducible exact k0 | with_reducible exact k1 | exact k2)
    (first | (go_at_call 32; refine (hZ _).mono ?_; rintro e w' ⟨rfl, hb9⟩; have hb1 := Below.thn (Below.refl W.heap.size W).drew hb9; have k1 : w'.cell? ⟨w.heap.size, 0, none⟩ = some (.int .i64 k) ∧ w'.cell? ⟨w.heap.size, 1, none⟩ = some (.int .i64 a) ∧ w'.cell? ⟨w.heap.size, 2, none⟩ = some (.int .i64 x) ∧ w'.cell? ⟨w.heap.size, 3, none⟩ = some (.int .i64 y) ∧ w'.cell? ⟨w.heap.size, 4, none⟩ = some (.bool r) ∧ w'.cell? ⟨w.heap.size, 5, none⟩ = some (.bool b) := ⟨(hX0.up hb1).cell 0, (hX0.up hb1).cell 1, (hX0.up hb1).cell 2, (hX0.up hb1).cell 3, (hX0.up hb1).cell 4, (hX0.up hb1).cell 5⟩; have hR1 := hR0.up hb1; obtain ⟨z0, z1, z2, z3⟩ := bk_cl hR1; have f0 := hR1.frz 0; have f1 := hR1.frz 1; have f2 := hR1.frz 2; have f3 := hR1.frz 3; have hX1 := hX0.up hb1; have k2 : ((((w'.setCell ⟨w.heap.size + 1, 0, none⟩ (.int .i64 k)).setCell ⟨w.heap.size + 1, 1, none⟩ (.complex .f64 p q)).setCell ⟨w.heap.size + 1, 2, none⟩ (.bool b)).setCell ⟨w.heap.size + 1, 3, none⟩ (.int .i64 a)).cell? ⟨w.heap.size, 0, none⟩ = some (.int .i64 k) ∧ ((((w'.setCell ⟨w.heap.size + 1, 0, none⟩ (.int .i64 k)).setCell ⟨w.heap.size + 1, 1, none⟩ (.complex .f64 p q)).setCell ⟨w.heap.size + 1, 2, none⟩ (.bool b)).setCell ⟨w.heap.size + 1, 3, none⟩ (.int .i64 a)).cell? ⟨w.heap.size, 1, none⟩ = some (.int .i64 a) ∧ ((((w'.setCell ⟨w.heap.size + 1, 0, none⟩ (.int .i64 k)).setCell ⟨w.heap.size + 1, 1, none⟩ (.complex .f64 p q)).setCell ⟨w.heap.size + 1, 2, none⟩ (.bool b)).setCell ⟨w.heap.size + 1, 3, none⟩ (.int .i64 a)).cell? ⟨w.heap.size, 2, none⟩ = some (.int .i64 x) ∧ ((((w'.setCell ⟨w.heap.size + 1, 0, none⟩ (.int .i64 k)).setCell ⟨w.heap.size + 1, 1, none⟩ (.complex .f64 p q)).setCell ⟨w.heap.size + 1, 2, none⟩ (.bool b)).setCell ⟨w.heap.size + 1, 3, none⟩ (.int .i64 a)).cell? ⟨w.heap.size, 3, none⟩ = some (.int .i64 y) ∧ ((((w'.setCell ⟨w.heap.size + 1, 0, none⟩ (.int .i64 k)).setCell ⟨w.heap.size + 1, 1, none⟩ (.complex .f64 p q)).setCell ⟨w.heap.size + 1, 2, none⟩ (.bool b)).setCell ⟨w.heap.size + 1, 3, none⟩ (.int .i64 a)).cell? ⟨w.heap.size, 4, none⟩ = some (.bool r) ∧ ((((w'.setCell ⟨w.heap.size + 1, 0, none⟩ (.int .i64 k)).setCell ⟨w.heap.size + 1, 1, none⟩ (.complex .f64 p q)).setCell ⟨w.heap.size + 1, 2, none⟩ (.bool b)).setCell ⟨w.heap.size + 1, 3, none⟩ (.int .i64 a)).cell? ⟨w.heap.size, 5, none⟩ = some (.bool b) := (by have ho := ((((Oth.refl (w.heap.size + 1) w').set 0 (.int .i64 k)).set 1 (.complex .f64 p q)).set 2 (.bool b)).set 3 (.int .i64 a); have hX2 := hX1.oth ho (by omega); exact ⟨hX2.cell 0, hX2.cell 1, hX2.cell 2, hX2.cell 3, hX2.cell 4, hX2.cell 5⟩)))
  all_goals
    have hR2 : Bk ((((w'.setCell ⟨w.heap.size + 1, 0, none⟩ (.int .i64 k)).setCell ⟨w.heap.size + 1, 1, none⟩ (.complex .f64 p q)).setCell ⟨w.heap.size + 1, 2, none⟩ (.bool b)).setCell ⟨w.heap.size + 1, 3, none⟩ (.int .i64 a)) (w.heap.size + 1) 55 (clC ⟨k, (p, q), b, a⟩) := (((hR1.set 0 (.int .i64 k)).set 1 (.complex .f64 p q)).set 2 (.bool b)).set 3 (.int .i64 a)
    have ho : Oth (w.heap.size + 1) w' ((((w'.setCell ⟨w.heap.size + 1, 0, none⟩ (.int .i64 k)).setCell ⟨w.heap.size + 1, 1, none⟩ (.complex .f64 p q)).setCell ⟨w.heap.size + 1, 2, none⟩ (.bool b)).setCell ⟨w.heap.size + 1, 3, none⟩ (.int .i64 a)) := ((((Oth.refl (w.heap.size + 1) w').set 0 (.int .i64 k)).set 1 (.complex .f64 p q)).set 2 (.bool b)).set 3 (.int .i64 a)
    clear k0 k1 k2 hcx hR1 hX1 z0 z1 z2 z3 f0 f1 f2 f3 hZ
    generalize (((w'.setCell ⟨w.heap.size + 1, 0, none⟩ (.int .i64 k)).setCell ⟨w.heap.size + 1, 1, none⟩ (.complex .f64 p q)).setCell ⟨w.heap.size + 1, 2, none⟩ (.bool b)).setCell ⟨w.heap.size + 1, 3, none⟩ (.int .i64 a) = w4 at *
    obtain ⟨z0, z1, z2, z3⟩ := bk_cl hR2
    go_wp2
    exact bodyPost_ret (v := .agg #[.int .i64 k, .complex .f64 p q, .bool b, .int .i64 a]) (by simp [results, Try.results15, go_sem, z0, z1, z2, z3]) rfl ⟨rfl, (Below.thn hb0 hb1).trans (ho.below (Nat.le_succ _))⟩

theorem mod7 (n : Int) : ∃ i : Nat, i < 7 ∧ n.tmod 7 + 7 ≤ 13 ∧ 1 ≤ n.tmod 7 + 7 ∧ (n.tmod 7 + 7).tmod 7 = (i : Int) := by
  have h1 : n.tmod 7 < 7 := Int.tmod_lt_of_pos n (by decide)
  have h2 : -7 < n.tmod 7 := by
    rcases Int.le_total 0 n with h | h
    · have := Int.tmod_nonneg 7 h
      omega
    · have h3 : (-n).tmod 7 < 7 := Int.tmod_lt_of_pos (-n) (by decide)
      rw [Int.neg_tmod] at h3
      omega
  have h4 : 0 ≤ (n.tmod 7 + 7).tmod 7 := Int.tmod_nonneg 7 (by omega)
  have h5 : (n.tmod 7 + 7).tmod 7 < 7 := Int.tmod_lt_of_pos _ (by decide)
  exact ⟨((n.tmod 7 + 7).tmod 7).toNat, by omega, by omega, by omega, by omega⟩
theorem into_any (n : Int) (w : World) : ∃ i : Nat, i < 7 ∧ Calls Try.prog 11 #[.int .i64 n, .int .i64 7] w fun e w' => e = .returned (.int .i64 i) ∧ w' = w := by
  obtain ⟨i, h1, h2, h3, h4⟩ := mod7 n
  refine ⟨i, h1, ?_⟩
  generalize hm : n.tmod 7 = m at *
  go_enter Try.func11, Try.ntmps11
  go_wp2
  go_ret
  exact ⟨by simp_all, rfl⟩
end Go.Proofs.Ytdbnlgjpfkfnjaa
