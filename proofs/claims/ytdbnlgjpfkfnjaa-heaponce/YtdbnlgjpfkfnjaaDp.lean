/-
  A heap that isn't there: what its calls answer; HeapNil.
-/
import Derived.Test.YtdbnlgjpfkfnjaaDn
namespace Go.Proofs.Ytdbnlgjpfkfnjaa
open Go.RowKit
open Go.Lib
set_option maxRecDepth 100000

theorem delay_nil (t : Int) (w : World) : Calls Try.prog 12 #[.pointer none, .int .i64 t] w fun e w' => e = .returned (.tuple #[.int .i64 0, .int .i64 1]) ∧ Below w.heap.size w w' := by
  go_enter Try.func12, Try.ntmps12
  go_wp2
  exact bodyPost_ret (v := .tuple #[.int .i64 0, .int .i64 1]) (by simp [results, Try.results12, go_sem]) rfl ⟨rfl, Below.refl _ _⟩
theorem poison_nil (w : World) : Calls Try.prog 13 #[.pointer none] w fun e w' => e = .returned (.tuple #[.int .i64 0, .int .i64 1]) ∧ Below w.heap.size w w' := by
  go_enter Try.func13, Try.ntmps13
  go_wp2
  exact bodyPost_ret (v := .tuple #[.int .i64 0, .int .i64 1]) (by simp [results, Try.results13, go_sem]) rfl ⟨rfl, Below.refl _ _⟩
theorem counts_nil (w : World) : Calls Try.prog 20 #[.pointer none] w fun e w' => e = .returned (.tuple #[.int .i64 0, .int .i64 0]) ∧ Below w.heap.size w w' := by
  go_enter Try.func20, Try.ntmps20
  go_wp2
  exact bodyPost_ret (v := .tuple #[.int .i64 0, .int .i64 0]) (by simp [results, Try.results20, go_sem]) rfl ⟨rfl, Below.refl _ _⟩
theorem pair_nil (c d : Cl) (w : World) : Calls Try.prog 14 #[.pointer none, clV c, clV d] w fun e w' => e = .returned (.tuple #[.int .i64 0, .int .i64 1]) ∧ Below w.heap.size w w' := by
  unfold clV
  go_enter Try.func14, Try.ntmps14
  go_wp2
  exact bodyPost_ret (v := .tuple #[.int .i64 0, .int .i64 1]) (by simp [results, Try.results14, go_sem]) rfl ⟨rfl, Below.thn (below_alloc _ _) (below_alloc _ _)⟩
set_option maxHeartbeats 1000000 in
theorem look_nil (a : Int) (w : World) : Calls Try.prog 17 #[.pointer none, .int .i64 a] w fun e w' => e = .returned (.tuple #[ndV nd0, .int .i64 1]) ∧ Below w.heap.size w w' := by
  have hb1 : ∀ o, Below w.heap.size w (w.alloc o) := fun o => below_alloc w o
  have hR0 : Bk (w.alloc (.cells #[.int .i64 0, .int .i64 0, .int .i64 0, .complex .f64 0 0, .bool false, .int .i64 0] 60)) w.heap.size 60 (ndC nd0) := Bk.new w 60 #[.int .i64 0, .int .i64 0, .int .i64 0, .complex .f64 0 0, .bool false, .int .i64 0]
  go_enter Try.func17, Try.ntmps17
  go_wp2_with (refine wpList_storeN rfl 60 (.tmp 4) (.tmp 8) rfl w.heap.size 0 (ndC nd0) rfl rfl hR0 (Nat.le_refl 6) Try.infoNd (ndC_one _) ?_; intro w9 hB9 hO9)
  obtain ⟨z0, z1, z2, z3, z4, z5⟩ := bk_nd hB9
  go_wp2
  exact bodyPost_ret (v := .tuple #[ndV nd0, .int .i64 1]) (by simp [results, Try.results17, go_sem, z0, z1, z2, z3, z4, z5, ndV]) rfl ⟨rfl, (hb1 _).trans (hO9.below (Nat.le_refl _))⟩
set_option maxHeartbeats 1000000 in
theorem parts_nil (a : Int) (w : World) : Calls Try.prog 21 #[.pointer none, .int .i64 a] w fun e w' => e = .returned (.tuple #[clV cl0, clV cl0, .int .i64 1]) ∧ Below w.heap.size w w' := by
  obtain ⟨hb1, hR1, hR2⟩ := new2 w 55 #[.int .i64 0, .complex .f64 0 0, .bool false, .int .i64 0] #[.int .i64 0, .complex .f64 0 0, .bool false, .int .i64 0]
  have hR1 : Bk _ w.heap.size 55 (clC cl0) := hR1
  have hR2 : Bk _ (w.heap.size + 1) 55 (clC cl0) := hR2
  go_enter Try.func21, Try.ntmps21
  go_wp2_with (first
    | (refine wpList_storeN rfl 55 (.tmp 4) (.tmp 9) rfl w.heap.size 0 (clC cl0) rfl rfl hR1 (Nat.le_refl 4) Try.infoCl (clC_one _) ?_; intro w3 hA3 hO3; have hB3 := hR2.oth hO3 (by omega))
    | (refine wpList_storeN rfl 55 (.tmp 5) (.tmp 10) rfl (w.heap.size + 1) 0 (clC cl0) rfl rfl hB3 (Nat.le_refl 4) Try.infoCl (clC_one _) ?_; intro w4 hB4 hO4; have hA4 := hA3.oth hO4 (by omega)))
  obtain ⟨z0, z1, z2, z3⟩ := bk_cl hA4
  obtain ⟨y0, y1, y2, y3⟩ := bk_cl hB4
  go_wp2
  exact bodyPost_ret (v := .tuple #[clV cl0, clV cl0, .int .i64 1]) (by simp [results, Try.results21, go_sem, z0, z1, z2, z3, y0, y1, y2, y3, clV]) rfl ⟨rfl, (hb1.trans (hO3.below (Nat.le_refl _))).trans (hO4.below (Nat.le_succ _))⟩
set_option maxHeartbeats 1000000 in
theorem enter_nil (a : Int) (w : World) : Calls Try.prog 18 #[.pointer none, .int .i64 a] w fun e w' => e = .returned (.tuple #[ndV nd0, .int .i64 1]) ∧ Below w.heap.size w w' := by
  have hL := fun W => look_nil a W
  have hb1 := below_alloc w (.cells #[.int .i64 0, .int .i64 0, .int .i64 0, .complex .f64 0 0, .bool false, .int .i64 0] 60)
  have hR0 : Bk (w.alloc (.cells #[.int .i64 0, .int .i64 0, .int .i64 0, .complex .f64 0 0, .bool false, .int .i64 0] 60)) w.heap.size 60 (ndC nd0) := Bk.new w 60 #[.int .i64 0, .int .i64 0, .int .i64 0, .complex .f64 0 0, .bool false, .int .i64 0]
  go_enter Try.func18, Try.ntmps18
  go_wp2_with fail
  refine (hL _).mono ?_
  rintro e w2 ⟨rfl, hb2⟩
  have hR2 := hR0.up hb2
  have hb3 := Below.thn hb1 hb2
  clear hL hb1 hR0 hb2
  generalize w.alloc (.cells #[.int .i64 0, .int .i64 0, .int .i64 0, .complex .f64 0 0, .bool false, .int .i64 0] 60) = w1 at *
  have hN0 : Bk (w2.alloc (.cells #[.int .i64 0, .int .i64 0, .int .i64 0, .complex .f64 0 0, .bool false, .int .i64 0] 60)) w2.heap.size 60 (ndC nd0) := Bk.new w2 60 #[.int .i64 0, .int .i64 0, .int .i64 0, .complex .f64 0 0, .bool false, .int .i64 0]
  have hb4 := Below.thn hb3 (below_alloc w2 (.cells #[.int .i64 0, .int .i64 0, .int .i64 0, .complex .f64 0 0, .bool false, .int .i64 0] 60))
  have hR4 := hR2.up (below_alloc w2 (.cells #[.int .i64 0, .int .i64 0, .int .i64 0, .complex .f64 0 0, .bool false, .int .i64 0] 60))
  have hlt := hR2.lt
  go_wp2_with (first
    | (refine wpList_storeN rfl 60 (.tmp 6) (.tmp 12) rfl w2.heap.size 0 (ndC nd0) rfl rfl hN0 (Nat.le_refl 6) Try.infoNd (ndC_one _) ?_; intro w3 hN3 hO3; have hR3 := hR4.oth hO3 (by omega))
    | (refine wpList_storeN rfl 60 (.tmp 4) (.tmp 16) rfl w.heap.size 0 (ndC nd0) rfl rfl hR3 (Nat.le_refl 6) Try.infoNd (ndC_one _) ?_; intro w5 hR5 hO5))
  obtain ⟨z0, z1, z2, z3, z4, z5⟩ := bk_nd hR5
  go_wp2
  exact bodyPost_ret (v := .tuple #[ndV nd0, .int .i64 1]) (by simp [results, Try.results18, go_sem, z0, z1, z2, z3, z4, z5, ndV]) rfl ⟨rfl, (hb4.trans (hO3.below (by omega))).trans (hO5.below (Nat.le_refl _))⟩
set_option maxHeartbeats 1000000 in
theorem upd_nil (a : Int) (c : Cl) (w : World) : Calls Try.prog 16 #[.pointer none, .int .i64 a, clV c] w fun e w' => e = .returned (.int .i64 1) ∧ Below w.heap.size w w' := by
  have hL := fun W => look_nil a W
  obtain ⟨ck, ⟨x, y⟩, r, a'⟩ := c
  have hb1 := below_alloc w (.cells #[.int .i64 ck, .complex .f64 x y, .bool r, .int .i64 a'] 55)
  unfold clV
  dsimp only
  go_enter Try.func16, Try.ntmps16
  go_wp2_with fail
  refine (hL _).mono ?_
  rintro e w2 ⟨rfl, hb2⟩
  have hb3 := Below.thn hb1 hb2
  clear hL hb1 hb2
  generalize w.alloc (.cells #[.int .i64 ck, .complex .f64 x y, .bool r, .int .i64 a'] 55) = w1 at *
  have hN0 : Bk (w2.alloc (.cells #[.int .i64 0, .int .i64 0, .int .i64 0, .complex .f64 0 0, .bool false, .int .i64 0] 60)) w2.heap.size 60 (ndC nd0) := Bk.new w2 60 #[.int .i64 0, .int .i64 0, .int .i64 0, .complex .f64 0 0, .bool false, .int .i64 0]
  have hb4 := Below.thn hb3 (below_alloc w2 (.cells #[.int .i64 0, .int .i64 0, .int .i64 0, .complex .f64 0 0, .bool false, .int .i64 0] 60))
  go_wp2_with (refine wpList_storeN rfl 60 (.tmp 7) (.tmp 13) rfl w2.heap.size 0 (ndC nd0) rfl rfl hN0 (Nat.le_refl 6) Try.infoNd (ndC_one _) ?_; intro w3 hN3 hO3)
  go_ret
  exact ⟨rfl, hb4.trans (hO3.below hb3.size)⟩

/-- A call of a script. -/
structure Ak where
  k : Int
  a : Int
  c : Lc
  d : Lc
def akC (q : Ak) : List Value := [.int .i64 q.k, .int .i64 q.a, .int .i64 q.c.k, .int .i64 q.c.a, .int .i64 q.c.x, .int .i64 q.c.y, .bool q.c.r, .bool q.c.b, .int .i64 q.d.k, .int .i64 q.d.a, .int .i64 q.d.x, .int .i64 q.d.y, .bool q.d.r, .bool q.d.b]
def akV (q : Ak) : Value := .agg #[.int .i64 q.k, .int .i64 q.a, .int .i64 q.c.k, .int .i64 q.c.a, .int .i64 q.c.x, .int .i64 q.c.y, .bool q.c.r, .bool q.c.b, .int .i64 q.d.k, .int .i64 q.d.a, .int .i64 q.d.x, .int .i64 q.d.y, .bool q.d.r, .bool q.d.b]
/-- A script's call in a block of its own, as it is read. -/
structure AkB (w : World) (g : Nat) (q : Ak) : Prop where
  bk : Bk w g 37 (akC q)
theorem AkB.cells {w : World} {g : Nat} {q : Ak} (h : AkB w g q) : w.cell? ⟨g, 0, none⟩ = some (.int .i64 q.k) ∧ w.cell? ⟨g, 1, none⟩ = some (.int .i64 q.a) ∧ w.cell? ⟨g, 2, none⟩ = some (.int .i64 q.c.k) ∧ w.cell? ⟨g, 3, none⟩ = some (.int .i64 q.c.a) ∧ w.cell? ⟨g, 4, none⟩ = some (.int .i64 q.c.x) ∧ w.cell? ⟨g, 5, none⟩ = some (.int .i64 q.c.y) ∧ w.cell? ⟨g, 6, none⟩ = some (.bool q.c.r) ∧ w.cell? ⟨g, 7, none⟩ = some (.bool q.c.b) ∧ w.cell? ⟨g, 8, none⟩ = some (.int .i64 q.d.k) ∧ w.cell? ⟨g, 9, none⟩ = some (.int .i64 q.d.a) ∧ w.cell? ⟨g, 10, none⟩ = some (.int .i64 q.d.x) ∧ w.cell? ⟨g, 11, none⟩ = some (.int .i64 q.d.y) ∧ w.cell? ⟨g, 12, none⟩ = some (.bool q.d.r) ∧ w.cell? ⟨g, 13, none⟩ = some (.bool q.d.b) :=
  ⟨h.bk.cell 0, h.bk.cell 1, h.bk.cell 2, h.bk.cell 3, h.bk.cell 4, h.bk.cell 5, h.bk.cell 6, h.bk.cell 7, h.bk.cell 8, h.bk.cell 9, h.bk.cell 10, h.bk.cell 11, h.bk.cell 12, h.bk.cell 13⟩
end Go.Proofs.Ytdbnlgjpfkfnjaa
