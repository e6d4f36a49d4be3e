/-
  A heap's pairs, told.
-/
import Derived.Test.YtdbnlgjpfkfnjaaDh
namespace Go.Proofs.Ytdbnlgjpfkfnjaa
open Go.RowKit
open Go.Lib
set_option maxRecDepth 100000

theorem set44 (W : World) (g h : Nat) (a0 a1 a2 a3 b0 b1 b2 b3 : Value) : ((((((((W.setCell ⟨g, 0, none⟩ a0).setCell ⟨g, 1, none⟩ a1).setCell ⟨g, 2, none⟩ a2).setCell ⟨g, 3, none⟩ a3).setCell ⟨h, 0, none⟩ b0).setCell ⟨h, 1, none⟩ b1).setCell ⟨h, 2, none⟩ b2).setCell ⟨h, 3, none⟩ b3).drew = (W.drew.setCells g 0 [a0, a1, a2, a3]).setCells h 0 [b0, b1, b2, b3] := by
  simp only [World.setCells, set_drew, Nat.reduceAdd]
theorem parts_cases (H : Hm) (a : Int) : (hasI H.ps.length a = false ∧ partsP H a = ((cl0, cl0), 2)) ∨ ∃ i : Nat, a = i ∧ i < H.ps.length ∧ hasI H.ps.length a = true ∧ partsP H a = (H.ps.getD i (cl0, cl0), 0) := by
  unfold partsP
  cases hN : hasI H.ps.length a with
  | false => left; simp
  | true =>
    obtain ⟨i, rfl, hi⟩ := hasI_lt hN
    right
    exact ⟨i, rfl, hi, rfl, by simp⟩
theorem new2 (w : World) (T : TypeId) (A B : Array Value) : Below w.heap.size w ((w.alloc (.cells A T)).alloc (.cells B T)) ∧ Bk ((w.alloc (.cells A T)).alloc (.cells B T)) w.heap.size T A.toList ∧ Bk ((w.alloc (.cells A T)).alloc (.cells B T)) (w.heap.size + 1) T B.toList := by
  refine ⟨Below.thn (below_alloc _ _) (below_alloc _ _), (Bk.new w T A).up (below_alloc _ _), ?_⟩
  have := Bk.new (w.alloc (.cells A T)) T B
  simpa using this

set_option maxHeartbeats 1000000 in
theorem parts_any {S : Nat → Prop} {w : World} {b : Nat} {H : Hm} (h : HpW 73 87 S w b H) (a : Int) :
    Calls Try.prog 21 #[.pointer (some ⟨b, 0, none⟩), .int .i64 a] w fun e w' => e = .returned (.tuple #[clV (partsP H a).1.1, clV (partsP H a).1.2, .int .i64 (partsP H a).2]) ∧ Below w.heap.size w w' := by
  have hp := fun (W : World) (hb : Below w.heap.size w W) => hasP_any (h.up hb) a
  obtain ⟨hb1, hR1, hR2⟩ := new2 w 55 #[.int .i64 0, .complex .f64 0 0, .bool false, .int .i64 0] #[.int .i64 0, .complex .f64 0 0, .bool false, .int .i64 0]
  have hR1 : Bk _ w.heap.size 55 (clC cl0) := hR1
  have hR2 : Bk _ (w.heap.size + 1) 55 (clC cl0) := hR2
  rcases parts_cases H a with ⟨hN, e⟩ | ⟨i, rfl, hi, hN, e⟩
  · rw [e]
    rw [hN] at hp
    clear e hN
    go_enter Try.func21, Try.ntmps21
    go_wp2_with fail
    refine (hp _ hb1).mono ?_
    rintro e w' ⟨rfl, rfl⟩
    clear hp
    generalize (w.alloc (.cells #[.int .i64 0, .complex .f64 0 0, .bool false, .int .i64 0] 55)).alloc (.cells #[.int .i64 0, .complex .f64 0 0, .bool false, .int .i64 0] 55) = W at *
    go_wp2_with (first
      | (refine wpList_storeN rfl 55 (.tmp 4) (.tmp 15) rfl w.heap.size 0 (clC cl0) rfl rfl hR1 (Nat.le_refl 4) Try.infoCl (clC_one _) ?_; intro w3 hA3 hO3; have hB3 := hR2.oth hO3 (by omega))
      | (refine wpList_storeN rfl 55 (.tmp 5) (.tmp 16) rfl (w.heap.size + 1) 0 (clC cl0) rfl rfl hB3 (Nat.le_refl 4) Try.infoCl (clC_one _) ?_; intro w4 hB4 hO4; have hA4 := hA3.oth hO4 (by omega)))
    obtain ⟨z0, z1, z2, z3⟩ := bk_cl hA4
    obtain ⟨y0, y1, y2, y3⟩ := bk_cl hB4
    go_wp2
    exact bodyPost_ret (v := .tuple #[clV cl0, clV cl0, .int .i64 2]) (by simp [results, Try.results21, go_sem, z0, z1, z2, z3, y0, y1, y2, y3, clV]) rfl ⟨rfl, (hb1.trans (hO3.below (Nat.le_refl _))).trans (hO4.below (Nat.le_succ _))⟩
  · rw [e]
    rw [hN] at hp
    clear e hN
    obtain ⟨hlt, hbS, vn, vp, hB, hR, hP, hS1, hS2⟩ := h
    obtain ⟨g, cap, rfl, hc1, hc2, hr⟩ := hP.at prC_len (cl0, cl0) hi
    generalize H.ps.getD i (cl0, cl0) = p at hr ⊢
    have hgl := hlt g (hS2 g rfl)
    obtain ⟨⟨ck, ⟨x, y⟩, r, a⟩, ⟨dk, ⟨u, v⟩, q, d⟩⟩ := p
    have hB1 := hB.up hb1
    have hbl0 := hB.lt
    have hr1 : ∀ (j : Nat) (z : Value), (prC (⟨ck, (x, y), r, a⟩, ⟨dk, (u, v), q, d⟩))[j]? = some z → ((w.alloc (.cells #[.int .i64 0, .complex .f64 0 0, .bool false, .int .i64 0] 55)).alloc (.cells #[.int .i64 0, .complex .f64 0 0, .bool false, .int .i64 0] 55)).cell? ⟨g, i * 8 + j, none⟩ = some z := fun j z hj => by
      rw [← hr j z hj]
      exact World.cell?_of_block (hb1.block g hgl)
    clear hB hR hP hS1 hS2 hlt hbS hr
    unfold clV
    go_enter Try.func21, Try.ntmps21
    go_wp2_with fail
    refine (hp _ hb1).mono ?_
    rintro e w' ⟨rfl, rfl⟩
    clear hp
    generalize (w.alloc (.cells #[.int .i64 0, .complex .f64 0 0, .bool false, .int .i64 0] 55)).alloc (.cells #[.int .i64 0, .complex .f64 0 0, .bool false, .int .i64 0] 55) = W at *
    have p0 : W.cell? ⟨g, i * 8, none⟩ = some (.int .i64 ck) := hr1 0 _ rfl
    have p1 : W.cell? ⟨g, i * 8 + 1, none⟩ = some (.complex .f64 x y) := hr1 1 _ rfl
    have p2 : W.cell? ⟨g, i * 8 + 2, none⟩ = some (.bool r) := hr1 2 _ rfl
    have p3 : W.cell? ⟨g, i * 8 + 3, none⟩ = some (.int .i64 a) := hr1 3 _ rfl
    have p4 : W.cell? ⟨g, i * 8 + 4, none⟩ = some (.int .i64 dk) := hr1 4 _ rfl
    have p5 : W.cell? ⟨g, i * 8 + 5, none⟩ = some (.complex .f64 u v) := hr1 5 _ rfl
    have p6 : W.cell? ⟨g, i * 8 + 6, none⟩ = some (.bool q) := hr1 6 _ rfl
    have p7 : W.cell? ⟨g, i * 8 + 7, none⟩ = some (.int .i64 d) := hr1 7 _ rfl
    have c1 : W.cell? ⟨b, 1, none⟩ = some (.slice (some ⟨g, 0, none⟩) H.ps.length cap) := hB1.cell 1
    obtain ⟨z0, z1, z2, z3⟩ := bk_cl hR1
    obtain ⟨y0, y1, y2, y3⟩ := bk_cl hR2
    have f0 : W.frozen? ⟨w.heap.size, 0, none⟩ = false := hR1.frz 0
    have f1 : W.frozen? ⟨w.heap.size, 1, none⟩ = false := hR1.frz 1
    have f2 : W.frozen? ⟨w.heap.size, 2, none⟩ = false := hR1.frz 2
    have f3 : W.frozen? ⟨w.heap.size, 3, none⟩ = false := hR1.frz 3
    have e0 : W.frozen? ⟨w.heap.size + 1, 0, none⟩ = false := hR2.frz 0
    have e1 : W.frozen? ⟨w.heap.size + 1, 1, none⟩ = false := hR2.frz 1
    have e2 : W.frozen? ⟨w.heap.size + 1, 2, none⟩ = false := hR2.frz 2
    have e3 : W.frozen? ⟨w.heap.size + 1, 3, none⟩ = false := hR2.frz 3
    have hcx := fun W a => store_cx W a x y
    have hcy := fun W a => store_cx W a u v
    obtain ⟨B1, o1⟩ := (show Bk W.drew w.heap.size 55 (clC cl0) from hR1).sets [.int .i64 ck, .complex .f64 x y, .bool r, .int .i64 a] 0
    obtain ⟨B2, o2⟩ := ((show Bk W.drew (w.heap.size + 1) 55 (clC cl0) from hR2).oth o1 (by omega)).sets [.int .i64 dk, .complex .f64 u v, .bool q, .int .i64 d] 0
    have B3 := B1.oth o2 (by omega)
    have HA : Hid (Bk _ w.heap.size 55 (clC ⟨ck, (x, y), r, a⟩)) := B3
    have HB : Hid (Bk _ (w.heap.size + 1) 55 (clC ⟨dk, (u, v), q, d⟩)) := B2
    have HC : Hid (Below w.heap.size w _) := (hb1.drew.trans (o1.below (Nat.le_refl _))).trans (o2.below (Nat.le_succ _))
    have hbl : b < w.heap.size := hbl0
    have n1 : b ≠ w.heap.size := by omega
    have n2 : g ≠ w.heap.size := by omega
    have n3 : b ≠ w.heap.size + 1 := by omega
    have n4 : g ≠ w.heap.size + 1 := by omega
    clear B1 B2 B3 o1 o2 hr1 hR1 hR2 hB1
    go_upto_region 5 with fail
    go_region
    all_goals
      rw [set44]
      clear p0 p1 p2 p3 p4 p5 p6 p7 c1 z0 z1 z2 z3 y0 y1 y2 y3 f0 f1 f2 f3 e0 e1 e2 e3 hcx hcy
      generalize (W.drew.setCells w.heap.size 0 [.int .i64 ck, .complex .f64 x y, .bool r, .int .i64 a]).setCells (w.heap.size + 1) 0 [.int .i64 dk, .complex .f64 u v, .bool q, .int .i64 d] = w4 at *
      obtain ⟨z0, z1, z2, z3⟩ := bk_cl HA.out
      obtain ⟨y0, y1, y2, y3⟩ := bk_cl HB.out
      go_wp2
      exact bodyPost_ret (v := .tuple #[.agg #[.int .i64 ck, .complex .f64 x y, .bool r, .int .i64 a], .agg #[.int .i64 dk, .complex .f64 u v, .bool q, .int .i64 d], .int .i64 0]) (by simp [results, Try.results21, go_sem, z0, z1, z2, z3, y0, y1, y2, y3]) rfl ⟨rfl, HC.out⟩
end Go.Proofs.Ytdbnlgjpfkfnjaa
