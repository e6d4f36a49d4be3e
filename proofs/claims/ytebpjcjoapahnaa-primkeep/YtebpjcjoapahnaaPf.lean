/-
  The walks of a law's number, two, one, awake.
-/
import Derived.Test.YtebpjcjoapahnaaPe
namespace Go.Proofs.Ytebpjcjoapahnaa
open Go.RowKit
set_option maxRecDepth 100000

theorem apV_zs (op : Int) (vs : List Rv) : (apV op vs).zs = [] := by
  unfold apV
  split
  · split
    · rfl
    · split
      · rfl
      · split
        · rfl
        · split
          · rfl
          · exact nuR_zs _ _
  · rfl

/-- A value without a list, as it lies. -/
abbrev fv (v : Rv) : List Value := [.int .i64 v.t, .complex .f64 v.z.1 v.z.2, .bool v.r, .slice none 0 0]

theorem V4.row {w : World} {b o : Nat} {v : Rv} (h : v.zs = []) (c0 : w.cell? ⟨b, o, none⟩ = some (.int .i64 v.t)) (c1 : w.cell? ⟨b, o + 1, none⟩ = some (.complex .f64 v.z.1 v.z.2)) (c2 : w.cell? ⟨b, o + 2, none⟩ = some (.bool v.r)) (c3 : w.cell? ⟨b, o + 3, none⟩ = some (.slice none 0 0)) : V4 w b o none 0 v :=
  ⟨c0, c1, c2, by rw [c3, h]; rfl⟩

theorem Ar.new1 (w : World) (a : Rv) (ha : a.zs = []) (la : ltZ a.z) : Ar (w.alloc (.cells #[.int .i64 a.t, .complex .f64 a.z.1 a.z.2, .bool a.r, .slice none 0 0] 32)) (some ⟨w.heap.size, 0, none⟩) [(none, 0, a)] := by
  have hB := Bk.new w 32 #[.int .i64 a.t, .complex .f64 a.z.1 a.z.2, .bool a.r, .slice none 0 0]
  refine ⟨fun _ => ⟨w.heap.size, 0, rfl, fun t ht => ?_⟩, fun i hi => ?_⟩
  · have : t = 0 := by simp at ht; exact ht
    subst this
    exact V4.row ha (hB.cell 0) (hB.cell 1) (hB.cell 2) (hB.cell 3)
  · rw [List.mem_singleton.1 hi]
    exact ⟨la, by rw [ha]; exact Zr.nil _ _, by rw [ha]; simp⟩

theorem Ar.new2 (w : World) (a b : Rv) (ha : a.zs = []) (la : ltZ a.z) (hb : b.zs = []) (lb : ltZ b.z) : Ar (w.alloc (.cells #[.int .i64 a.t, .complex .f64 a.z.1 a.z.2, .bool a.r, .slice none 0 0, .int .i64 b.t, .complex .f64 b.z.1 b.z.2, .bool b.r, .slice none 0 0] 32)) (some ⟨w.heap.size, 0, none⟩) [(none, 0, a), (none, 0, b)] := by
  have hB := Bk.new w 32 #[.int .i64 a.t, .complex .f64 a.z.1 a.z.2, .bool a.r, .slice none 0 0, .int .i64 b.t, .complex .f64 b.z.1 b.z.2, .bool b.r, .slice none 0 0]
  refine ⟨fun _ => ⟨w.heap.size, 0, rfl, fun t ht => ?_⟩, fun i hi => ?_⟩
  · have : t = 0 ∨ t = 1 := by simp at ht; omega
    rcases this with rfl | rfl
    · exact V4.row ha (hB.cell 0) (hB.cell 1) (hB.cell 2) (hB.cell 3)
    · exact V4.row hb (hB.cell 4) (hB.cell 5) (hB.cell 6) (hB.cell 7)
  · rcases List.mem_cons.1 hi with e | e
    · rw [e]; exact ⟨la, by rw [ha]; exact Zr.nil _ _, by rw [ha]; simp⟩
    · rw [List.mem_singleton.1 e]; exact ⟨lb, by rw [hb]; exact Zr.nil _ _, by rw [hb]; simp⟩

set_option maxHeartbeats 1000000 in
theorem lnum_any (x y : Nat) (w : World) :
    Calls Try.prog 18 #[.complex .f64 x y] w fun e w' => e = .returned (.agg #[.int .i64 1, .complex .f64 x y, .bool false, .slice none 0 0]) ∧ Below w.heap.size w w' := by
  have hcx := store_cx
  go_enter Try.func18, Try.ntmps18
  go_wp2
  exact bodyPost_ret (v := .agg #[.int .i64 1, .complex .f64 x y, .bool false, .slice none 0 0]) (by simp [results, Try.results18, go_sem]) rfl ⟨rfl, below_alloc _ _⟩

/-- What Apply answers of two numbers, of one value. -/
def tV (op : Int) (a b : Wz) : Rv := apV op [rn a, rn b]
def tE (op : Int) (a b : Wz) : Int := apE op [rn a, rn b]
def oV (op : Int) (v : Rv) : Rv := apV op [v]
def oE (op : Int) (v : Rv) : Int := apE op [v]

set_option maxHeartbeats 2000000 in
theorem two_any (op : Int) (a b : Wz) (w : World) (ha : ltZ a) (hb : ltZ b) :
    Calls Try.prog 16 #[.int .i64 op, .complex .f64 a.1 a.2, .complex .f64 b.1 b.2] w fun e w' => e = .returned (.tuple #[.agg #[.int .i64 (tV op a b).t, .complex .f64 (tV op a b).z.1 (tV op a b).z.2, .bool (tV op a b).r, .slice none 0 0], .int .i64 (tE op a b)]) ∧ Below w.heap.size w w' := by
  have b0 := below_alloc w (.cells #[.int .i64 0, .complex .f64 0 0, .bool false, .slice none 0 0] 32)
  have hR0 := Bk.new w 32 #[.int .i64 0, .complex .f64 0 0, .bool false, .slice none 0 0]
  have hA := fun W => apply_any op _ 2 _ _ (Ar.new2 W (rn a) (rn b) rfl ha rfl hb) (by simp)
  have eV : vV none 0 (apV op (List.map (fun x : Ai => x.2.2) [(none, 0, rn a), (none, 0, rn b)])) = .agg #[.int .i64 (tV op a b).t, .complex .f64 (tV op a b).z.1 (tV op a b).z.2, .bool (tV op a b).r, .slice none 0 0] := vV_agg _ (apV_zs _ _)
  have eE : apE op (List.map (fun x : Ai => x.2.2) [(none, 0, rn a), (none, 0, rn b)]) = tE op a b := rfl
  rw [eV, eE] at hA
  have h1 := fun W => lnum_any a.1 a.2 W
  have h2 := fun W => lnum_any b.1 b.2 W
  simp only [rn, List.length_cons, List.length_nil, Nat.zero_add, Nat.reduceAdd] at hA
  generalize tE op a b = k at *
  generalize tV op a b = v at *
  obtain ⟨x, y⟩ := a
  obtain ⟨p, q⟩ := b
  obtain ⟨t9, ⟨x9, y9⟩, r9, zs9⟩ := v
  simp only at *
  clear eV eE ha hb
  generalize hW : w.alloc (.cells #[.int .i64 0, .complex .f64 0 0, .bool false, .slice none 0 0] 32) = W at *
  go_enter Try.func16, Try.ntmps16
  go_wp2_with fail
  refine (h1 _).mono ?_
  rintro e w1 ⟨rfl, hb1⟩
  clear hW
  have hR1 := hR0.up hb1
  have b1 := b0.trans (hb1.mono b0.size)
  go_wp2_with fail
  refine (h2 _).mono ?_
  rintro e w2 ⟨rfl, hb2⟩
  have hR2 := hR1.up hb2
  have b2 := b1.trans (hb2.mono b1.size)
  go_wp2_with fail
  refine (hA _).mono ?_
  rintro e w3 ⟨rfl, hb3⟩
  have hb3' := Below.thn (below_alloc w2 _) hb3
  have hR3 := hR2.up hb3'
  have b3 := b2.trans (hb3'.mono b2.size)
  clear h1 h2 hA
  go_wp2_with (refine wpList_storeN rfl 32 (.tmp 6) (.tmp 15) rfl w.heap.size 0 [.int .i64 t9, .complex .f64 x9 y9, .bool r9, .slice none 0 0] rfl rfl hR3 (Nat.le_refl 4) Try.infoV (one4 _ _ _ _ _ _ _) ?_; intro w9 hB9 hO9)
  have z0 : w9.cell? ⟨w.heap.size, 0, none⟩ = some (.int .i64 t9) := hB9.cell 0
  have z1 : w9.cell? ⟨w.heap.size, 1, none⟩ = some (.complex .f64 x9 y9) := hB9.cell 1
  have z2 : w9.cell? ⟨w.heap.size, 2, none⟩ = some (.bool r9) := hB9.cell 2
  have z3 : w9.cell? ⟨w.heap.size, 3, none⟩ = some (.slice none 0 0) := hB9.cell 3
  go_wp2
  exact bodyPost_ret (v := .tuple #[.agg #[.int .i64 t9, .complex .f64 x9 y9, .bool r9, .slice none 0 0], .int .i64 k]) (by simp [results, Try.results16, go_sem, z0, z1, z2, z3]) rfl ⟨rfl, b3.trans (hO9.below (Nat.le_refl _))⟩

set_option maxHeartbeats 2000000 in
theorem lone_any (op : Int) (u : Rv) (w : World) (hu : u.zs = []) (hz : ltZ u.z) :
    Calls Try.prog 17 #[.int .i64 op, .agg #[.int .i64 u.t, .complex .f64 u.z.1 u.z.2, .bool u.r, .slice none 0 0]] w fun e w' => e = .returned (.tuple #[.agg #[.int .i64 (oV op u).t, .complex .f64 (oV op u).z.1 (oV op u).z.2, .bool (oV op u).r, .slice none 0 0], .int .i64 (oE op u)]) ∧ Below w.heap.size w w' := by
  have hA := fun W => apply_any op _ 1 _ _ (Ar.new1 W u hu hz) (by simp)
  have eV : vV none 0 (apV op (List.map (fun x : Ai => x.2.2) [(none, 0, u)])) = .agg #[.int .i64 (oV op u).t, .complex .f64 (oV op u).z.1 (oV op u).z.2, .bool (oV op u).r, .slice none 0 0] := vV_agg _ (apV_zs _ _)
  have eE : apE op (List.map (fun x : Ai => x.2.2) [(none, 0, u)]) = oE op u := rfl
  rw [eV, eE] at hA
  simp only [List.length_cons, List.length_nil, Nat.zero_add] at hA
  generalize oE op u = k at *
  generalize oV op u = v at *
  obtain ⟨t, ⟨x, y⟩, r, zs⟩ := u
  obtain ⟨t9, ⟨x9, y9⟩, r9, zs9⟩ := v
  simp only at *
  clear eV eE hu hz
  have b00 := below_alloc w (.cells #[.int .i64 t, .complex .f64 x y, .bool r, .slice none 0 0] 32)
  have hX := (Bk.new w 32 #[.int .i64 t, .complex .f64 x y, .bool r, .slice none 0 0]).up (below_alloc _ (.cells #[.int .i64 0, .complex .f64 0 0, .bool false, .slice none 0 0] 32))
  have hR0 := Bk.new (w.alloc (.cells #[.int .i64 t, .complex .f64 x y, .bool r, .slice none 0 0] 32)) 32 #[.int .i64 0, .complex .f64 0 0, .bool false, .slice none 0 0]
  have b0 := Below.thn b00 (below_alloc _ (.cells #[.int .i64 0, .complex .f64 0 0, .bool false, .slice none 0 0] 32))
  rw [show (w.alloc (.cells #[.int .i64 t, .complex .f64 x y, .bool r, .slice none 0 0] 32)).heap.size = w.heap.size + 1 by simp] at hR0
  have hA0 := hA ((w.alloc (.cells #[.int .i64 t, .complex .f64 x y, .bool r, .slice none 0 0] 32)).alloc (.cells #[.int .i64 0, .complex .f64 0 0, .bool false, .slice none 0 0] 32))
  rw [show ((w.alloc (.cells #[.int .i64 t, .complex .f64 x y, .bool r, .slice none 0 0] 32)).alloc (.cells #[.int .i64 0, .complex .f64 0 0, .bool false, .slice none 0 0] 32)).heap.size = w.heap.size + 1 + 1 by simp] at hA0
  clear hA
  go_enter Try.func17, Try.ntmps17
  go_wp2_with fail
  refine hA0.mono ?_
  rintro e w3 ⟨rfl, hb3⟩
  have hb3' := Below.thn (below_alloc _ _) hb3
  have hR3 := hR0.up hb3'
  have b3 := b0.trans (hb3'.mono b0.size)
  clear hA0
  go_wp2_with (refine wpList_storeN rfl 32 (.tmp 4) (.tmp 10) rfl (w.heap.size + 1) 0 [.int .i64 t9, .complex .f64 x9 y9, .bool r9, .slice none 0 0] rfl rfl hR3 (Nat.le_refl 4) Try.infoV (one4 _ _ _ _ _ _ _) ?_; intro w9 hB9 hO9)
  have z0 : w9.cell? ⟨w.heap.size + 1, 0, none⟩ = some (.int .i64 t9) := hB9.cell 0
  have z1 : w9.cell? ⟨w.heap.size + 1, 1, none⟩ = some (.complex .f64 x9 y9) := hB9.cell 1
  have z2 : w9.cell? ⟨w.heap.size + 1, 2, none⟩ = some (.bool r9) := hB9.cell 2
  have z3 : w9.cell? ⟨w.heap.size + 1, 3, none⟩ = some (.slice none 0 0) := hB9.cell 3
  go_wp2
  exact bodyPost_ret (v := .tuple #[.agg #[.int .i64 t9, .complex .f64 x9 y9, .bool r9, .slice none 0 0], .int .i64 k]) (by simp [results, Try.results17, go_sem, z0, z1, z2, z3]) rfl ⟨rfl, b3.trans (hO9.below (Nat.le_succ _))⟩
end Go.Proofs.Ytebpjcjoapahnaa
