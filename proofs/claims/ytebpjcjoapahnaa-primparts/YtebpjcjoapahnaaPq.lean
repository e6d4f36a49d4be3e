/-
  The walk of PrimParts.
-/
import Derived.Test.YtebpjcjoapahnaaPi
namespace Go.Proofs.Ytebpjcjoapahnaa
open Go.RowKit
set_option maxRecDepth 100000

theorem two_mul {a b : Wz} (ha : vc a.1 a.2 = true) (hb : vc b.1 b.2 = true) {X Y : Int} (hX : mulX (nb a.1) (nb a.2) (nb b.1) (nb b.2) = X) (hY : mulY (nb a.1) (nb a.2) (nb b.1) (nb b.2) = Y) :
    (okC X Y = true ∧ twoE 10 a b = 0 ∧ twoW 10 a b = (fl X, fl Y)) ∨ (okC X Y = false ∧ twoE 10 a b = 50 ∧ twoW 10 a b = (0, 0)) := by
  have hv : valid4 a.1 a.2 b.1 b.2 = true := by rw [valid4_vc, ha, hb]; rfl
  have e1 : twoE 10 a b = opE mulX mulY a.1 a.2 b.1 b.2 := rfl
  have e2 : twoW 10 a b = (opR mulX mulY a.1 a.2 b.1 b.2, opI mulX mulY a.1 a.2 b.1 b.2) := rfl
  rw [e1, e2]
  cases hk : okC X Y with
  | true =>
    have e : opE mulX mulY a.1 a.2 b.1 b.2 = 0 := by unfold opE; rw [hv, hX, hY, hk]; rfl
    left
    refine ⟨rfl, e, ?_⟩
    unfold opR opI
    rw [if_pos e, if_pos e, hX, hY]
  | false =>
    have e : opE mulX mulY a.1 a.2 b.1 b.2 = 50 := by unfold opE; rw [hv, hX, hY, hk]; rfl
    right
    refine ⟨rfl, e, ?_⟩
    unfold opR opI
    rw [if_neg (by omega), if_neg (by omega)]
theorem two_add {a b : Wz} (ha : vc a.1 a.2 = true) (hb : vc b.1 b.2 = true) {X Y : Int} (hX : addX (nb a.1) (nb a.2) (nb b.1) (nb b.2) = X) (hY : addY (nb a.1) (nb a.2) (nb b.1) (nb b.2) = Y) :
    (okC X Y = true ∧ twoE 8 a b = 0 ∧ twoW 8 a b = (fl X, fl Y)) ∨ (okC X Y = false ∧ twoE 8 a b = 50 ∧ twoW 8 a b = (0, 0)) := by
  have hv : valid4 a.1 a.2 b.1 b.2 = true := by rw [valid4_vc, ha, hb]; rfl
  have e1 : twoE 8 a b = opE addX addY a.1 a.2 b.1 b.2 := rfl
  have e2 : twoW 8 a b = (opR addX addY a.1 a.2 b.1 b.2, opI addX addY a.1 a.2 b.1 b.2) := rfl
  rw [e1, e2]
  cases hk : okC X Y with
  | true =>
    have e : opE addX addY a.1 a.2 b.1 b.2 = 0 := by unfold opE; rw [hv, hX, hY, hk]; rfl
    left
    refine ⟨rfl, e, ?_⟩
    unfold opR opI
    rw [if_pos e, if_pos e, hX, hY]
  | false =>
    have e : opE addX addY a.1 a.2 b.1 b.2 = 50 := by unfold opE; rw [hv, hX, hY, hk]; rfl
    right
    refine ⟨rfl, e, ?_⟩
    unfold opR opI
    rw [if_neg (by omega), if_neg (by omega)]

theorem nb_zero : nb 0 = 0 := by decide
theorem nb_one : nb 4607182418800017408 = 1 := by decide
theorem vp_zero : vp 0 = true := by decide
theorem vc_one : vc 0 4607182418800017408 = true := by decide

theorem vc_left {x : Nat} (h : vp x = true) : vc x 0 = true := by unfold vc; rw [h, vp_zero]; rfl
theorem vc_right {x : Nat} (h : vp x = true) : vc 0 x = true := by unfold vc; rw [h, vp_zero]; rfl
theorem fl_nb {x : Nat} (h : vp x = true) : fl (nb x) = x := (vp_true h).2.symm

theorem parts_up {y : Nat} (h : vp y = true) : twoE 10 (y, 0) (0, 4607182418800017408) = 0 ∧ twoW 10 (y, 0) (0, 4607182418800017408) = (0, y) := by
  have hy := (vp_true h).1
  rcases two_mul (a := (y, 0)) (b := (0, 4607182418800017408)) (vc_left h) vc_one (X := 0) (Y := nb y) (by simp only [mulX, nb_zero, nb_one]; omega) (by simp only [mulY, nb_zero, nb_one]; omega) with ⟨_, h2, h3⟩ | ⟨h1, _⟩
  · rw [fl_zero, fl_nb h] at h3; exact ⟨h2, h3⟩
  · rw [okC_iff.2 ⟨by simp, hy⟩] at h1; cases h1
theorem parts_back {x y : Nat} (hx : vp x = true) (hy : vp y = true) : twoE 8 (x, 0) (0, y) = 0 ∧ twoW 8 (x, 0) (0, y) = (x, y) := by
  rcases two_add (a := (x, 0)) (b := (0, y)) (vc_left hx) (vc_right hy) (X := nb x) (Y := nb y) (by simp only [addX, nb_zero]; omega) (by simp only [addY, nb_zero]; omega) with ⟨_, h2, h3⟩ | ⟨h1, _⟩
  · rw [fl_nb hx, fl_nb hy] at h3; exact ⟨h2, h3⟩
  · rw [okC_iff.2 ⟨(vp_true hx).1, (vp_true hy).1⟩] at h1; cases h1

theorem parts_sq {x : Nat} (hx : vp x = true) : (nb x * nb x ≤ 16777216 ∧ twoE 10 (x, 0) (x, 0) = 0 ∧ twoW 10 (x, 0) (x, 0) = (fl (nb x * nb x), 0)) ∨ (16777216 < nb x * nb x ∧ twoE 10 (x, 0) (x, 0) = 50 ∧ twoW 10 (x, 0) (x, 0) = (0, 0)) := by
  have s1 := sq_bounds (nb x) (vp_true hx).1
  rcases two_mul (a := (x, 0)) (b := (x, 0)) (vc_left hx) (vc_left hx) (X := nb x * nb x) (Y := 0) (by simp only [mulX, nb_zero]; omega) (by simp only [mulY, nb_zero]; omega) with ⟨h1, h2, h3⟩ | ⟨h1, h2, h3⟩
  · left
    have := (okC_iff.1 h1).1
    rw [fl_zero] at h3
    exact ⟨by omega, h2, h3⟩
  · right
    refine ⟨?_, h2, h3⟩
    rcases Int.lt_or_le 16777216 (nb x * nb x) with g | g
    · exact g
    · rw [okC_iff.2 ⟨by omega, by simp⟩] at h1; cases h1

/-- What the law holds against one another. -/
theorem parts_key {x y : Nat} (hx : vp x = true) (hy : vp y = true) {A B S P : Wz} {Ea Eb Es Ep : Int} (hA : twoW 10 (x, 0) (x, 0) = A) (hEa : twoE 10 (x, 0) (x, 0) = Ea) (hB : twoW 10 (y, 0) (y, 0) = B) (hEb : twoE 10 (y, 0) (y, 0) = Eb)
    (hS : twoW 8 A B = S) (hEs : twoE 8 A B = Es) (hP : twoW 10 (x, y) (x, cj y) = P) (hEp : twoE 10 (x, y) (x, cj y) = Ep) :
    (Ea = 0 ∧ Eb = 0 ∧ Es = 0 ∧ Ep = 0 ∧ P = S ∧ P.2 = 0) ∨ ((Ea == 0) = false ∧ Ep = 50) ∨ (Ea = 0 ∧ (Eb == 0) = false ∧ Ep = 50) ∨ (Ea = 0 ∧ Eb = 0 ∧ (Es == 0) = false ∧ Ep = 50) := by
  have sx := sq_bounds (nb x) (vp_true hx).1
  have sy := sq_bounds (nb y) (vp_true hy).1
  obtain ⟨cv, cn, _, _⟩ := cj_facts hy
  have hxy : vc x y = true := by unfold vc; rw [hx, hy]; rfl
  have hxc : vc x (cj y) = true := by unfold vc; rw [hx, cv]; rfl
  have key := two_mul (a := (x, y)) (b := (x, cj y)) hxy hxc (X := nb x * nb x + nb y * nb y) (Y := 0) (by simp only [mulX, cn, Int.mul_neg]; omega) (by simp only [mulY, cn, Int.mul_neg, Int.mul_comm]; omega)
  rw [hP, hEp] at key
  have big : 16777216 < nb x * nb x + nb y * nb y → Ep = 50 := by
    intro hg
    rcases key with ⟨h1, _, _⟩ | ⟨_, h2, _⟩
    · have := (okC_iff.1 h1).1; omega
    · exact h2
  rcases parts_sq hx with ⟨a1, a2, a3⟩ | ⟨a1, a2, _⟩
  · rcases parts_sq hy with ⟨b1, b2, b3⟩ | ⟨b1, b2, _⟩
    · rw [hA] at a3
      rw [hB] at b3
      have va : vp (fl (nb x * nb x)) = true := vp_fl _ (by omega)
      have vb : vp (fl (nb y * nb y)) = true := vp_fl _ (by omega)
      have na : nb (fl (nb x * nb x)) = nb x * nb x := nb_fl _ (by omega)
      have nb' : nb (fl (nb y * nb y)) = nb y * nb y := nb_fl _ (by omega)
      have kS := two_add (a := A) (b := B) (by rw [a3]; exact vc_left va) (by rw [b3]; exact vc_left vb) (X := nb x * nb x + nb y * nb y) (Y := 0) (by rw [a3, b3]; simp only [addX, na, nb']) (by rw [a3, b3]; simp only [addY, nb_zero]; omega)
      rw [hS, hEs] at kS
      rcases kS with ⟨k1, k2, k3⟩ | ⟨k1, k2, k3⟩
      · left
        rcases key with ⟨_, h2, h3⟩ | ⟨h1, _, _⟩
        · refine ⟨by rw [← hEa]; exact a2, by rw [← hEb]; exact b2, k2, h2, by rw [h3, k3], by rw [h3, fl_zero]⟩
        · rw [h1] at k1; cases k1
      · right; right; right
        refine ⟨by rw [← hEa]; exact a2, by rw [← hEb]; exact b2, by rw [k2]; rfl, big ?_⟩
        rcases Int.lt_or_le 16777216 (nb x * nb x + nb y * nb y) with g | g
        · exact g
        · rw [okC_iff.2 ⟨by omega, by simp⟩] at k1; cases k1
    · right; right; left
      exact ⟨by rw [← hEa]; exact a2, by rw [← hEb, b2]; rfl, big (by omega)⟩
  · right; left
    exact ⟨by rw [← hEa, a2]; rfl, big (by omega)⟩

/-- Same, of a number and itself. -/
theorem same_rn (x y : Nat) (W : World) (h : vc x y = true) :
    Calls Try.prog 19 #[.agg #[.int .i64 1, .complex .f64 x y, .bool false, .slice none 0 0], .agg #[.int .i64 1, .complex .f64 x y, .bool false, .slice none 0 0]] W fun e w' => e = .returned (.bool true) ∧ Below W.heap.size W w' := by
  have hl := vc_lt h
  have hv : Vr W none (rn (x, y)) := ⟨hl, Zr.nil _ _, by simp [rn]⟩
  have := rsame_any (rn (x, y)) (rn (x, y)) none none 0 0 W hv hv
  have e : sameV (rn (x, y)) (rn (x, y)) = true := by unfold sameV; rw [sound_rn (a := (x, y)) h]; simp
  rw [e] at this
  exact this

set_option maxHeartbeats 4000000 in
theorem primParts_any (x1 y1 : Int) (r1 : Bool) (w : World) :
    Calls Try.prog 5 #[.agg #[.int .i64 x1, .int .i64 y1, .bool r1]] w fun e w' => e = .returned (.bool true) ∧ Below w.heap.size w w' := by
  have l1 := zb_lt r1 x1
  have l2 := zb_lt r1 y1
  have hz1 := fun W => zb_any ⟨x1, y1, r1⟩ W
  unfold Nq.w at hz1
  simp only at hz1
  have hB := Bk.new w 34 #[.int .i64 x1, .int .i64 y1, .bool r1]
  go_enter Try.func5, Try.ntmps5
  go_wp2_with fail
  refine (awake10_any _).mono ?_
  rintro e w1 ⟨rfl, hb1⟩
  have b0 := below_alloc w (.cells #[.int .i64 x1, .int .i64 y1, .bool r1] 34)
  have m1 := hB.up hb1
  have B1 := Below.thn b0 hb1
  have c0 : w1.cell? ⟨w.heap.size, 0, none⟩ = some (.int .i64 x1) := m1.cell 0
  have c1 : w1.cell? ⟨w.heap.size, 1, none⟩ = some (.int .i64 y1) := m1.cell 1
  have c2 : w1.cell? ⟨w.heap.size, 2, none⟩ = some (.bool r1) := m1.cell 2
  clear hb1 b0 hB
  go_wp2_with fail
  refine (hz1 _).mono ?_
  rintro e w2 ⟨rfl, hb2⟩
  have B := Below.thn B1 hb2
  clear hb2 B1 c0 c1 c2 hz1 m1
  generalize zb r1 x1 = x at *
  generalize zb r1 y1 = y at *
  have hcx := store_cx
  have hN := fun W => lnum_any x y W
  have o1 := fun W => lone_any 15 (rn (x, y)) W rfl ⟨l1, l2⟩
  have o2 := fun W => lone_any 16 (rn (x, y)) W rfl ⟨l1, l2⟩
  have o3 := fun W => lone_any 17 (rn (x, y)) W rfl ⟨l1, l2⟩
  cases hv : vc x y with
  | false =>
    rw [(o_bad (op := 15) (by omega) (a := (x, y)) hv).1, (o_bad (op := 15) (by omega) (a := (x, y)) hv).2] at o1
    rw [(o_bad (op := 16) (by omega) (a := (x, y)) hv).1, (o_bad (op := 16) (by omega) (a := (x, y)) hv).2] at o2
    rw [(o_bad (op := 17) (by omega) (a := (x, y)) hv).1, (o_bad (op := 17) (by omega) (a := (x, y)) hv).2] at o3
    simp only [rn, rv0] at o1 o2 o3
    go_wp2_with fail
    refine (hN _).mono ?_
    rintro e v10 ⟨rfl, hv10⟩
    replace B := Below.thn B hv10
    go_wp2_with fail
    refine (o1 _).mono ?_
    rintro e v11 ⟨rfl, hv11⟩
    have hv11b := Below.thn (below_alloc v10 (.cells #[.int .i64 1, .complex .f64 x y, .bool false, .slice none 0 0] 32)) hv11
    have KZ := (Bk.new v10 32 #[.int .i64 1, .complex .f64 x y, .bool false, .slice none 0 0]).up hv11
    replace B := Below.thn B hv11b
    have cZ0 : v11.cell? ⟨v10.heap.size, 0, none⟩ = some (.int .i64 1) := KZ.cell 0
    have cZ1 : v11.cell? ⟨v10.heap.size, 1, none⟩ = some (.complex .f64 x y) := KZ.cell 1
    have cZ2 : v11.cell? ⟨v10.heap.size, 2, none⟩ = some (.bool false) := KZ.cell 2
    have cZ3 : v11.cell? ⟨v10.heap.size, 3, none⟩ = some (.slice none 0 0) := KZ.cell 3
    have lZ := KZ.lt
    go_wp2_with fail
    refine (o2 _).mono ?_
    rintro e v12 ⟨rfl, hv12⟩
    have hv12b := Below.thn (below_alloc v11 (.cells #[.int .i64 0, .complex .f64 0 0, .bool false, .slice none 0 0] 32)) hv12
    have KR := (Bk.new v11 32 #[.int .i64 0, .complex .f64 0 0, .bool false, .slice none 0 0]).up hv12
    replace KZ := KZ.up hv12b
    replace B := Below.thn B hv12b
    clear cZ0 cZ1 cZ2 cZ3 lZ
    have cZ0 : v12.cell? ⟨v10.heap.size, 0, none⟩ = some (.int .i64 1) := KZ.cell 0
    have cZ1 : v12.cell? ⟨v10.heap.size, 1, none⟩ = some (.complex .f64 x y) := KZ.cell 1
    have cZ2 : v12.cell? ⟨v10.heap.size, 2, none⟩ = some (.bool false) := KZ.cell 2
    have cZ3 : v12.cell? ⟨v10.heap.size, 3, none⟩ = some (.slice none 0 0) := KZ.cell 3
    have lZ := KZ.lt
    go_wp2_with fail
    refine (o3 _).mono ?_
    rintro e v13 ⟨rfl, hv13⟩
    have hv13b := Below.thn (below_alloc v12 (.cells #[.int .i64 0, .complex .f64 0 0, .bool false, .slice none 0 0] 32)) hv13
    have KI := (Bk.new v12 32 #[.int .i64 0, .complex .f64 0 0, .bool false, .slice none 0 0]).up hv13
    replace KZ := KZ.up hv13b
    replace KR := KR.up hv13b
    replace B := Below.thn B hv13b
    clear cZ0 cZ1 cZ2 cZ3 lZ
    go_wp2
    go_ret
    exact ⟨rfl, Below.thn B (below_alloc _ _)⟩
  | true =>
    obtain ⟨vx, vy⟩ := vc_parts hv
    rw [(o_one (op := 15) (by omega) (a := (x, y)) hv).1, (o_one (op := 15) (by omega) (a := (x, y)) hv).2] at o1
    rw [(o_one (op := 16) (by omega) (a := (x, y)) hv).1, (o_one (op := 16) (by omega) (a := (x, y)) hv).2] at o2
    rw [(o_one (op := 17) (by omega) (a := (x, y)) hv).1, (o_one (op := 17) (by omega) (a := (x, y)) hv).2] at o3
    simp only [rn, show oneW 15 (x, y) = (x, 0) from rfl, show oneW 16 (x, y) = (y, 0) from rfl, show oneW 17 (x, y) = (x, cj y) from rfl] at o1 o2 o3
    have lc := (cj_facts vy).2.2.2
    have vcc : vc x (cj y) = true := by unfold vc; rw [vx, (cj_facts vy).1]; rfl
    have z0 : (0 : Nat) < 2 ^ 64 := by decide
    have t1 := fun W => two_valid 10 (by omega) (y, 0) (0, 4607182418800017408) W ⟨l2, z0⟩ ⟨z0, by decide⟩ (by rw [Bool.and_eq_true]; exact ⟨vc_left vy, vc_one⟩)
    rw [(parts_up vy).1, (parts_up vy).2] at t1
    have t2 := fun W => two_valid 8 (by omega) (x, 0) (0, y) W ⟨l1, z0⟩ ⟨z0, l2⟩ (by rw [Bool.and_eq_true]; exact ⟨vc_left vx, vc_right vy⟩)
    rw [(parts_back vx vy).1, (parts_back vx vy).2] at t2
    have t3 := fun W => two_valid 10 (by omega) (x, y) (x, cj y) W ⟨l1, l2⟩ ⟨l1, lc⟩ (by rw [Bool.and_eq_true]; exact ⟨hv, vcc⟩)
    have t4 := fun W => two_valid 10 (by omega) (x, 0) (x, 0) W ⟨l1, z0⟩ ⟨l1, z0⟩ (by rw [Bool.and_eq_true]; exact ⟨vc_left vx, vc_left vx⟩)
    have t5 := fun W => two_valid 10 (by omega) (y, 0) (y, 0) W ⟨l2, z0⟩ ⟨l2, z0⟩ (by rw [Bool.and_eq_true]; exact ⟨vc_left vy, vc_left vy⟩)
    have vA := vc_two 10 (x, 0) (x, 0)
    have vB := vc_two 10 (y, 0) (y, 0)
    have t6 := fun W => two_valid 8 (by omega) (twoW 10 (x, 0) (x, 0)) (twoW 10 (y, 0) (y, 0)) W (vc_lt vA) (vc_lt vB) (by rw [Bool.and_eq_true]; exact ⟨vA, vB⟩)
    have vP := vc_two 10 (x, y) (x, cj y)
    have s1 := fun W => same_rn x y W hv
    have key := parts_key vx vy rfl rfl rfl rfl rfl rfl rfl rfl
    have s2 := fun W => same_rn (twoW 10 (x, y) (x, cj y)).1 (twoW 10 (x, y) (x, cj y)).2 W vP
    have o4 := fun W => lone_any 16 (rn (twoW 10 (x, y) (x, cj y))) W rfl (vc_lt vP)
    rw [(o_one (op := 16) (by omega) (a := twoW 10 (x, y) (x, cj y)) vP).1, (o_one (op := 16) (by omega) (a := twoW 10 (x, y) (x, cj y)) vP).2] at o4
    simp only [rn, show ∀ P : Wz, oneW 16 P = (P.2, 0) from fun _ => rfl] at o4
    simp only [show tt 0 = 1 from rfl] at t1 t2
    generalize twoW 8 (twoW 10 (x, 0) (x, 0)) (twoW 10 (y, 0) (y, 0)) = S at *
    generalize twoE 8 (twoW 10 (x, 0) (x, 0)) (twoW 10 (y, 0) (y, 0)) = Es at *
    generalize twoW 10 (x, 0) (x, 0) = A at *
    generalize twoE 10 (x, 0) (x, 0) = Ea at *
    generalize twoW 10 (y, 0) (y, 0) = B' at *
    generalize twoE 10 (y, 0) (y, 0) = Eb at *
    generalize twoW 10 (x, y) (x, cj y) = P at *
    generalize twoE 10 (x, y) (x, cj y) = Ep at *
    generalize cj y = cy at *
    obtain ⟨s3, s4⟩ := S
    obtain ⟨a3, a4⟩ := A
    obtain ⟨b3, b4⟩ := B'
    obtain ⟨p3, p4⟩ := P
    have hq : (FloatKind.f64.format.order 0 0 == some Ordering.eq) = true := by decide
    have KEY : Hid ((Ea = 0 ∧ Eb = 0 ∧ Es = 0 ∧ Ep = 0 ∧ (p3, p4) = (s3, s4) ∧ (p3, p4).2 = 0) ∨ ((Ea == 0) = false ∧ Ep = 50) ∨ (Ea = 0 ∧ (Eb == 0) = false ∧ Ep = 50) ∨ (Ea = 0 ∧ Eb = 0 ∧ (Es == 0) = false ∧ Ep = 50)) := key
    simp only at t1 t2 t3 t4 t5 t6 s2 o4
    obtain ⟨Ta, hTa⟩ : ∃ t, Hid (t = tt Ea) := ⟨_, rfl⟩
    obtain ⟨Tb, hTb⟩ : ∃ t, Hid (t = tt Eb) := ⟨_, rfl⟩
    obtain ⟨Ts, hTs⟩ : ∃ t, Hid (t = tt Es) := ⟨_, rfl⟩
    obtain ⟨Tp, hTp⟩ : ∃ t, Hid (t = tt Ep) := ⟨_, rfl⟩
    rw [← hTa.out] at t4
    rw [← hTb.out] at t5
    rw [← hTs.out] at t6
    rw [← hTp.out] at t3
    clear key vA vB vP vcc lc z0 vx vy
    go_wp2_with fail
    refine (hN _).mono ?_
    rintro e v10 ⟨rfl, hv10⟩
    replace B := Below.thn B hv10
    go_wp2_with fail
    refine (o1 _).mono ?_
    rintro e v11 ⟨rfl, hv11⟩
    have hv11b := Below.thn (below_alloc v10 (.cells #[.int .i64 1, .complex .f64 x y, .bool false, .slice none 0 0] 32)) hv11
    have KZ := (Bk.new v10 32 #[.int .i64 1, .complex .f64 x y, .bool false, .slice none 0 0]).up hv11
    replace B := Below.thn B hv11b
    have cZ0 : v11.cell? ⟨v10.heap.size, 0, none⟩ = some (.int .i64 1) := KZ.cell 0
    have cZ1 : v11.cell? ⟨v10.heap.size, 1, none⟩ = some (.complex .f64 x y) := KZ.cell 1
    have cZ2 : v11.cell? ⟨v10.heap.size, 2, none⟩ = some (.bool false) := KZ.cell 2
    have cZ3 : v11.cell? ⟨v10.heap.size, 3, none⟩ = some (.slice none 0 0) := KZ.cell 3
    have lZ := KZ.lt
    go_wp2_with fail
    refine (o2 _).mono ?_
    rintro e v12 ⟨rfl, hv12⟩
    have hv12b := Below.thn (below_alloc v11 (.cells #[.int .i64 1, .complex .f64 x 0, .bool false, .slice none 0 0] 32)) hv12
    have KR := (Bk.new v11 32 #[.int .i64 1, .complex .f64 x 0, .bool false, .slice none 0 0]).up hv12
    replace KZ := KZ.up hv12b
    replace B := Below.thn B hv12b
    clear cZ0 cZ1 cZ2 cZ3 lZ
    have cZ0 : v12.cell? ⟨v10.heap.size, 0, none⟩ = some (.int .i64 1) := KZ.cell 0
    have cZ1 : v12.cell? ⟨v10.heap.size, 1, none⟩ = some (.complex .f64 x y) := KZ.cell 1
    have cZ2 : v12.cell? ⟨v10.heap.size, 2, none⟩ = some (.bool false) := KZ.cell 2
    have cZ3 : v12.cell? ⟨v10.heap.size, 3, none⟩ = some (.slice none 0 0) := KZ.cell 3
    have lZ := KZ.lt
    go_wp2_with fail
    refine (o3 _).mono ?_
    rintro e v13 ⟨rfl, hv13⟩
    have hv13b := Below.thn (below_alloc v12 (.cells #[.int .i64 1, .complex .f64 y 0, .bool false, .slice none 0 0] 32)) hv13
    have KI := (Bk.new v12 32 #[.int .i64 1, .complex .f64 y 0, .bool false, .slice none 0 0]).up hv13
    replace KZ := KZ.up hv13b
    replace KR := KR.up hv13b
    replace B := Below.thn B hv13b
    clear cZ0 cZ1 cZ2 cZ3 lZ
    have cI0 : v13.cell? ⟨v12.heap.size, 0, none⟩ = some (.int .i64 1) := KI.cell 0
    have cI1 : v13.cell? ⟨v12.heap.size, 1, none⟩ = some (.complex .f64 y 0) := KI.cell 1
    have cI2 : v13.cell? ⟨v12.heap.size, 2, none⟩ = some (.bool false) := KI.cell 2
    have cI3 : v13.cell? ⟨v12.heap.size, 3, none⟩ = some (.slice none 0 0) := KI.cell 3
    have lI := KI.lt
    go_wp2_with fail
    refine (t1 _).mono ?_
    rintro e v14 ⟨rfl, hv14⟩
    have hv14b := Below.thn (below_alloc v13 (.cells #[.int .i64 1, .complex .f64 x cy, .bool false, .slice none 0 0] 32)) hv14
    have KC := (Bk.new v13 32 #[.int .i64 1, .complex .f64 x cy, .bool false, .slice none 0 0]).up hv14
    replace KZ := KZ.up hv14b
    replace KR := KR.up hv14b
    replace KI := KI.up hv14b
    replace B := Below.thn B hv14b
    clear cI0 cI1 cI2 cI3 lI
    have cR0 : v14.cell? ⟨v11.heap.size, 0, none⟩ = some (.int .i64 1) := KR.cell 0
    have cR1 : v14.cell? ⟨v11.heap.size, 1, none⟩ = some (.complex .f64 x 0) := KR.cell 1
    have cR2 : v14.cell? ⟨v11.heap.size, 2, none⟩ = some (.bool false) := KR.cell 2
    have cR3 : v14.cell? ⟨v11.heap.size, 3, none⟩ = some (.slice none 0 0) := KR.cell 3
    have lR := KR.lt
    go_wp2_with fail
    refine (t2 _).mono ?_
    rintro e v15 ⟨rfl, hv15⟩
    have hv15b := Below.thn (below_alloc v14 (.cells #[.int .i64 1, .complex .f64 0 y, .bool false, .slice none 0 0] 32)) hv15
    have KU := (Bk.new v14 32 #[.int .i64 1, .complex .f64 0 y, .bool false, .slice none 0 0]).up hv15
    replace KZ := KZ.up hv15b
    replace KR := KR.up hv15b
    replace KI := KI.up hv15b
    replace KC := KC.up hv15b
    replace B := Below.thn B hv15b
    clear cR0 cR1 cR2 cR3 lR
    have cZ0 : v15.cell? ⟨v10.heap.size, 0, none⟩ = some (.int .i64 1) := KZ.cell 0
    have cZ1 : v15.cell? ⟨v10.heap.size, 1, none⟩ = some (.complex .f64 x y) := KZ.cell 1
    have cZ2 : v15.cell? ⟨v10.heap.size, 2, none⟩ = some (.bool false) := KZ.cell 2
    have cZ3 : v15.cell? ⟨v10.heap.size, 3, none⟩ = some (.slice none 0 0) := KZ.cell 3
    have lZ := KZ.lt
    go_wp2_with fail
    refine (s1 _).mono ?_
    rintro e v16 ⟨rfl, hv16⟩
    have hv16b := Below.thn (below_alloc v15 (.cells #[.int .i64 1, .complex .f64 x y, .bool false, .slice none 0 0] 32)) hv16
    have KK := (Bk.new v15 32 #[.int .i64 1, .complex .f64 x y, .bool false, .slice none 0 0]).up hv16
    replace KZ := KZ.up hv16b
    replace KR := KR.up hv16b
    replace KI := KI.up hv16b
    replace KC := KC.up hv16b
    replace KU := KU.up hv16b
    replace B := Below.thn B hv16b
    clear cZ0 cZ1 cZ2 cZ3 lZ
    have cZ0 : v16.cell? ⟨v10.heap.size, 0, none⟩ = some (.int .i64 1) := KZ.cell 0
    have cZ1 : v16.cell? ⟨v10.heap.size, 1, none⟩ = some (.complex .f64 x y) := KZ.cell 1
    have cZ2 : v16.cell? ⟨v10.heap.size, 2, none⟩ = some (.bool false) := KZ.cell 2
    have cZ3 : v16.cell? ⟨v10.heap.size, 3, none⟩ = some (.slice none 0 0) := KZ.cell 3
    have lZ := KZ.lt
    have cC0 : v16.cell? ⟨v13.heap.size, 0, none⟩ = some (.int .i64 1) := KC.cell 0
    have cC1 : v16.cell? ⟨v13.heap.size, 1, none⟩ = some (.complex .f64 x cy) := KC.cell 1
    have cC2 : v16.cell? ⟨v13.heap.size, 2, none⟩ = some (.bool false) := KC.cell 2
    have cC3 : v16.cell? ⟨v13.heap.size, 3, none⟩ = some (.slice none 0 0) := KC.cell 3
    have lC := KC.lt
    go_wp2_with fail
    refine (t3 _).mono ?_
    rintro e v17 ⟨rfl, hv17⟩
    replace KZ := KZ.up hv17
    replace KR := KR.up hv17
    replace KI := KI.up hv17
    replace KC := KC.up hv17
    replace KU := KU.up hv17
    replace KK := KK.up hv17
    replace B := Below.thn B hv17
    clear cZ0 cZ1 cZ2 cZ3 lZ cC0 cC1 cC2 cC3 lC
    have cR0 : v17.cell? ⟨v11.heap.size, 0, none⟩ = some (.int .i64 1) := KR.cell 0
    have cR1 : v17.cell? ⟨v11.heap.size, 1, none⟩ = some (.complex .f64 x 0) := KR.cell 1
    have cR2 : v17.cell? ⟨v11.heap.size, 2, none⟩ = some (.bool false) := KR.cell 2
    have cR3 : v17.cell? ⟨v11.heap.size, 3, none⟩ = some (.slice none 0 0) := KR.cell 3
    have lR := KR.lt
    go_wp2_with fail
    refine (t4 _).mono ?_
    rintro e v18 ⟨rfl, hv18⟩
    have hv18b := Below.thn (below_alloc v17 (.cells #[.int .i64 Tp, .complex .f64 p3 p4, .bool false, .slice none 0 0] 32)) hv18
    have KP := (Bk.new v17 32 #[.int .i64 Tp, .complex .f64 p3 p4, .bool false, .slice none 0 0]).up hv18
    replace KZ := KZ.up hv18b
    replace KR := KR.up hv18b
    replace KI := KI.up hv18b
    replace KC := KC.up hv18b
    replace KU := KU.up hv18b
    replace KK := KK.up hv18b
    replace B := Below.thn B hv18b
    clear cR0 cR1 cR2 cR3 lR
    have cI0 : v18.cell? ⟨v12.heap.size, 0, none⟩ = some (.int .i64 1) := KI.cell 0
    have cI1 : v18.cell? ⟨v12.heap.size, 1, none⟩ = some (.complex .f64 y 0) := KI.cell 1
    have cI2 : v18.cell? ⟨v12.heap.size, 2, none⟩ = some (.bool false) := KI.cell 2
    have cI3 : v18.cell? ⟨v12.heap.size, 3, none⟩ = some (.slice none 0 0) := KI.cell 3
    have lI := KI.lt
    go_wp2_with fail
    refine (t5 _).mono ?_
    rintro e v19 ⟨rfl, hv19⟩
    have hv19b := Below.thn (below_alloc v18 (.cells #[.int .i64 Ta, .complex .f64 a3 a4, .bool false, .slice none 0 0] 32)) hv19
    have KA := (Bk.new v18 32 #[.int .i64 Ta, .complex .f64 a3 a4, .bool false, .slice none 0 0]).up hv19
    replace KZ := KZ.up hv19b
    replace KR := KR.up hv19b
    replace KI := KI.up hv19b
    replace KC := KC.up hv19b
    replace KU := KU.up hv19b
    replace KK := KK.up hv19b
    replace KP := KP.up hv19b
    replace B := Below.thn B hv19b
    clear cI0 cI1 cI2 cI3 lI
    have cA0 : v19.cell? ⟨v18.heap.size, 0, none⟩ = some (.int .i64 Ta) := KA.cell 0
    have cA1 : v19.cell? ⟨v18.heap.size, 1, none⟩ = some (.complex .f64 a3 a4) := KA.cell 1
    have cA2 : v19.cell? ⟨v18.heap.size, 2, none⟩ = some (.bool false) := KA.cell 2
    have cA3 : v19.cell? ⟨v18.heap.size, 3, none⟩ = some (.slice none 0 0) := KA.cell 3
    have lA := KA.lt
    go_wp2_with fail
    refine (t6 _).mono ?_
    rintro e v20 ⟨rfl, hv20⟩
    have hv20b := Below.thn (below_alloc v19 (.cells #[.int .i64 Tb, .complex .f64 b3 b4, .bool false, .slice none 0 0] 32)) hv20
    have KB := (Bk.new v19 32 #[.int .i64 Tb, .complex .f64 b3 b4, .bool false, .slice none 0 0]).up hv20
    replace KZ := KZ.up hv20b
    replace KR := KR.up hv20b
    replace KI := KI.up hv20b
    replace KC := KC.up hv20b
    replace KU := KU.up hv20b
    replace KK := KK.up hv20b
    replace KP := KP.up hv20b
    replace KA := KA.up hv20b
    replace B := Below.thn B hv20b
    clear cA0 cA1 cA2 cA3 lA
    rcases KEY.out with ⟨rfl, rfl, rfl, rfl, h5, h6⟩ | ⟨h1, rfl⟩ | ⟨rfl, h1, rfl⟩ | ⟨rfl, rfl, h1, rfl⟩
    · simp only [Prod.mk.injEq] at h5
      replace h6 : p4 = 0 := h6
      obtain ⟨rfl, rfl⟩ := h5
      subst h6
      have e1 := hTp.out
      have e2 := hTs.out
      rw [show tt 0 = 1 from rfl] at e1 e2
      subst e1 e2
      have cP0 : v20.cell? ⟨v17.heap.size, 0, none⟩ = some (.int .i64 1) := KP.cell 0
      have cP1 : v20.cell? ⟨v17.heap.size, 1, none⟩ = some (.complex .f64 p3 0) := KP.cell 1
      have cP2 : v20.cell? ⟨v17.heap.size, 2, none⟩ = some (.bool false) := KP.cell 2
      have cP3 : v20.cell? ⟨v17.heap.size, 3, none⟩ = some (.slice none 0 0) := KP.cell 3
      have lP := KP.lt
      go_wp2_with fail
      refine (o4 _).mono ?_
      rintro e v21 ⟨rfl, hv21⟩
      have hv21b := Below.thn (below_alloc v20 (.cells #[.int .i64 1, .complex .f64 p3 0, .bool false, .slice none 0 0] 32)) hv21
      have KS := (Bk.new v20 32 #[.int .i64 1, .complex .f64 p3 0, .bool false, .slice none 0 0]).up hv21
      replace KZ := KZ.up hv21b
      replace KR := KR.up hv21b
      replace KI := KI.up hv21b
      replace KC := KC.up hv21b
      replace KU := KU.up hv21b
      replace KK := KK.up hv21b
      replace KP := KP.up hv21b
      replace KA := KA.up hv21b
      replace KB := KB.up hv21b
      replace B := Below.thn B hv21b
      clear cP0 cP1 cP2 cP3 lP
      have cP0 : v21.cell? ⟨v17.heap.size, 0, none⟩ = some (.int .i64 1) := KP.cell 0
      have cP1 : v21.cell? ⟨v17.heap.size, 1, none⟩ = some (.complex .f64 p3 0) := KP.cell 1
      have cP2 : v21.cell? ⟨v17.heap.size, 2, none⟩ = some (.bool false) := KP.cell 2
      have cP3 : v21.cell? ⟨v17.heap.size, 3, none⟩ = some (.slice none 0 0) := KP.cell 3
      have lP := KP.lt
      have cS0 : v21.cell? ⟨v20.heap.size, 0, none⟩ = some (.int .i64 1) := KS.cell 0
      have cS1 : v21.cell? ⟨v20.heap.size, 1, none⟩ = some (.complex .f64 p3 0) := KS.cell 1
      have cS2 : v21.cell? ⟨v20.heap.size, 2, none⟩ = some (.bool false) := KS.cell 2
      have cS3 : v21.cell? ⟨v20.heap.size, 3, none⟩ = some (.slice none 0 0) := KS.cell 3
      have lS := KS.lt
      go_wp2_with fail
      refine (s2 _).mono ?_
      rintro e v22 ⟨rfl, hv22⟩
      have hv22b := Below.thn (below_alloc v21 (.cells #[.int .i64 1, .complex .f64 0 0, .bool false, .slice none 0 0] 32)) hv22
      have KF := (Bk.new v21 32 #[.int .i64 1, .complex .f64 0 0, .bool false, .slice none 0 0]).up hv22
      replace KZ := KZ.up hv22b
      replace KR := KR.up hv22b
      replace KI := KI.up hv22b
      replace KC := KC.up hv22b
      replace KU := KU.up hv22b
      replace KK := KK.up hv22b
      replace KP := KP.up hv22b
      replace KA := KA.up hv22b
      replace KB := KB.up hv22b
      replace KS := KS.up hv22b
      replace B := Below.thn B hv22b
      clear cP0 cP1 cP2 cP3 lP cS0 cS1 cS2 cS3 lS
      have cF0 : v22.cell? ⟨v21.heap.size, 0, none⟩ = some (.int .i64 1) := KF.cell 0
      have cF1 : v22.cell? ⟨v21.heap.size, 1, none⟩ = some (.complex .f64 0 0) := KF.cell 1
      have cF2 : v22.cell? ⟨v21.heap.size, 2, none⟩ = some (.bool false) := KF.cell 2
      have cF3 : v22.cell? ⟨v21.heap.size, 3, none⟩ = some (.slice none 0 0) := KF.cell 3
      have lF := KF.lt
      go_wp2
      go_ret
      exact ⟨rfl, B⟩
    · go_wp2
      all_goals
        go_ret
        exact ⟨rfl, Below.thn B (below_alloc _ _)⟩
    · go_wp2
      all_goals
        go_ret
        exact ⟨rfl, Below.thn B (below_alloc _ _)⟩
    · go_wp2
      all_goals
        go_ret
        exact ⟨rfl, Below.thn B (below_alloc _ _)⟩
end Go.Proofs.Ytebpjcjoapahnaa
