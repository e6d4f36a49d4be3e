/-
  The walk of RowsPuts.
-/
import Derived.Test.YtmckdefemdcknaaPl
namespace Go.Proofs.Ytmckdefemdcknaa
open Go.RowKit
open RowsM

theorem into_any (n m : Int) (h0 : 0 < m) (h1 : m ≤ 4096) (w : World) :
    Calls Try.prog 29 #[.int .i64 n, .int .i64 m] w fun e w' => e = .returned (.int .i64 (n % m)) ∧ w' = w := by
  go_enter Try.func29, Try.ntmps29
  go_wp2
  go_ret
  refine ⟨ret_int ?_, rfl⟩
  have a := Int.tmod_lt_of_pos n h0
  have b := Int.lt_tmod_of_pos n h0
  have e1 : wrap64 (n.tmod m + m) = n.tmod m + m := by unfold wrap64; omega
  have e2 : n.tmod m = n - m * n.tdiv m := Int.tmod_def n m
  rw [e1, Int.tmod_eq_emod_of_nonneg (by omega), e2, Int.add_emod_right, Int.sub_mul_emod_self_left]

/-- What the counts come to behind k rounds. -/
def Step (c0 c1 c2 c3 k c : Int) : Prop := (k = 0 ∧ c = 0) ∨ (k = 1 ∧ c = c0) ∨ (k = 2 ∧ c = c0 + c1) ∨ (k = 3 ∧ c = c0 + c1 + c2) ∨ (k = 4 ∧ c = c0 + c1 + c2 + c3)

set_option maxHeartbeats 2000000 in
theorem puts_any (p1 p2 p3 p4 : Int) (w : World) :
    Calls Try.prog 7 #[.int .i64 p1, .int .i64 p2, .int .i64 p3, .int .i64 p4] w fun e w' => e = .returned (.bool true) ∧ Below w.heap.size w w' := by
  obtain ⟨M, hM⟩ : ∃ M, M = p1 % 200 := ⟨_, rfl⟩
  have M0 : 0 ≤ M := by omega
  have M1 : M < 200 := by omega
  have N0 : 0 < (M + 1) := by omega
  have N1 : (M + 1) ≤ 200 := by omega
  obtain ⟨I, hI⟩ : ∃ I, I = p2 % (M + 1) := ⟨_, rfl⟩
  have I0 : 0 ≤ I := by rw [hI]; exact Int.emod_nonneg _ (by omega)
  have I1 : I < (M + 1) := by rw [hI]; exact Int.emod_lt_of_pos _ N0
  obtain ⟨K, hK⟩ : ∃ K, K = p3 % (M + 1) := ⟨_, rfl⟩
  have K0 : 0 ≤ K := by rw [hK]; exact Int.emod_nonneg _ (by omega)
  have K1 : K < (M + 1) := by rw [hK]; exact Int.emod_lt_of_pos _ N0
  obtain ⟨V, hV⟩ : ∃ V, V = p4 % 4 := ⟨_, rfl⟩
  have V0 : 0 ≤ V := by omega
  have V1 : V ≤ 3 := by omega
  have a1 := fun w => into_any p1 200 (by omega) (by omega) w
  have a2 := fun w => into_any p2 (M + 1) N0 (by omega) w
  have a3 := fun w => into_any p3 (M + 1) N0 (by omega) w
  have a4 := fun w => into_any p4 4 (by omega) (by omega) w
  rw [← hM] at a1
  rw [← hI] at a2
  rw [← hK] at a3
  rw [← hV] at a4
  obtain ⟨Z, hZ⟩ : ∃ Z, zerosN (M + 1) = Z := ⟨_, rfl⟩
  have kN : okN (M + 1) = true := by unfold okN; simp; omega
  have kZ : okR (M + 1) Z = true := by rw [← hZ]; exact zeros_ok kN
  have bZ : Bd Z := by rw [← hZ]; exact zerosN_lt (M + 1)
  have kI : inR (M + 1) I = true := by unfold inR; simp; omega
  have kK : inR (M + 1) K = true := by unfold inR; simp; omega
  have q1 : okPut (M + 1) Z I V = true := by unfold okPut okV; rw [kZ, kI]; simp; omega
  obtain ⟨S, hS⟩ : ∃ S, putL (M + 1) Z I V = S := ⟨_, rfl⟩
  have kS : okR (M + 1) S = true := by rw [← hS]; exact okR_put bZ q1
  have bS : Bd S := by rw [← hS]; exact put_bd bZ
  have q2 : okPut (M + 1) S K (3 - V) = true := by unfold okPut okV; rw [kS, kK]; simp; omega
  obtain ⟨X, hX⟩ : ∃ X, putL (M + 1) S K (3 - V) = X := ⟨_, rfl⟩
  have kX : okR (M + 1) X = true := by rw [← hX]; exact okR_put bS q2
  have g1 : (getV (M + 1) X K : Int) = 3 - V := by
    rw [← hX, get_put bS q2 kK, if_pos rfl]; omega
  have g2 : (getV (M + 1) X I : Int) = if I = K then 3 - V else V := by
    rw [← hX, get_put bS q2 kI]
    by_cases h : I = K
    · rw [if_pos h, if_pos h]; omega
    · rw [if_neg h, if_neg h, ← hS, get_put bZ q1 kI, if_pos rfl]; omega
  have lX : (X.length : Int) = ((M + 1) + 31) / 32 := by simp only [okR, decide_eq_true_eq] at kX; exact kX.2.2.1
  have cX := countL_all X
  have f0 : countV (M + 1) X 0 = (countL X 0 : Int) - (32 * (X.length : Int) - (M + 1)) := by unfold countV; rw [kX]; rfl
  have f1 : countV (M + 1) X 1 = (countL X 1 : Int) := by unfold countV; rw [kX]; simp [okV]
  have f2 : countV (M + 1) X 2 = (countL X 2 : Int) := by unfold countV; rw [kX]; simp [okV]
  have f3 : countV (M + 1) X 3 = (countL X 3 : Int) := by unfold countV; rw [kX]; simp [okV]
  have fz : countV (M + 1) Z 0 = (M + 1) := by
    unfold countV
    rw [kZ, ← hZ, zerosN_yes kN]
    have : okV 0 = true := by decide
    rw [this]
    simp only [Bool.and_self, if_true, List.length_replicate]
    have e := zeros_count (((M + 1) + 31) / 32).toNat
    rw [show (0 : Int).toNat = 0 from rfl, e]
    omega
  have c0le := countL_le X 0
  have c1le := countL_le X 1
  have c2le := countL_le X 2
  have c3le := countL_le X 3
  obtain ⟨c0, h0⟩ : ∃ c, countV (M + 1) X 0 = c := ⟨_, rfl⟩
  obtain ⟨c1, h1⟩ : ∃ c, countV (M + 1) X 1 = c := ⟨_, rfl⟩
  obtain ⟨c2, h2⟩ : ∃ c, countV (M + 1) X 2 = c := ⟨_, rfl⟩
  obtain ⟨c3, h3⟩ : ∃ c, countV (M + 1) X 3 = c := ⟨_, rfl⟩
  have call : c0 + c1 + c2 + c3 = (M + 1) := by omega
  have d0 : -8192 ≤ c0 ∧ c0 ≤ 8192 := by omega
  have d1 : 0 ≤ c1 ∧ c1 ≤ 8192 := by omega
  have d2 : 0 ≤ c2 ∧ c2 ≤ 8192 := by omega
  have d3 : 0 ≤ c3 ∧ c3 ≤ 8192 := by omega
  have H_Z : Hid (zerosN (M + 1) = Z) := hZ
  have H_S : Hid (putL (M + 1) Z I V = S) := hS
  have H_X : Hid (putL (M + 1) S K (3 - V) = X) := hX
  have H_g1 : Hid ((getV (M + 1) X K : Int) = 3 - V) := g1
  have H_0 : Hid (countV (M + 1) X 0 = c0) := h0
  have H_1 : Hid (countV (M + 1) X 1 = c1) := h1
  have H_2 : Hid (countV (M + 1) X 2 = c2) := h2
  have H_3 : Hid (countV (M + 1) X 3 = c3) := h3
  have H_z : Hid (countV (M + 1) Z 0 = (M + 1)) := fz
  have H_all : Hid (c0 + c1 + c2 + c3 = (M + 1)) := call
  obtain ⟨ga, hga⟩ : ∃ g : Int, (getV (M + 1) X I : Int) = g := ⟨_, rfl⟩
  have H_ga : Hid ((getV (M + 1) X I : Int) = ga) := hga
  have hga2 : I = K ∨ ga = V := by
    by_cases h : I = K
    · exact .inl h
    · rw [if_neg h, hga] at g2; exact .inr g2
  clear hZ hS hX g1 g2 cX f0 f1 f2 f3 fz c0le c1le c2le c3le h0 h1 h2 h3 call hI hK hV lX hga hM bZ bS
  go_enter Try.func7, Try.ntmps7
  go_wp2_with fail
  refine (awake_any _).mono ?_
  rintro e w1 ⟨rfl, B⟩
  go_wp2_with fail
  refine (a1 _).mono ?_
  rintro e w' ⟨rfl, rfl⟩
  go_wp2_with fail
  refine (a2 _).mono ?_
  rintro e w' ⟨rfl, rfl⟩
  go_wp2_with fail
  refine (a3 _).mono ?_
  rintro e w' ⟨rfl, rfl⟩
  go_wp2_with fail
  refine (a4 _).mono ?_
  rintro e w' ⟨rfl, rfl⟩
  clear a1 a2 a3 a4
  go_wp2_with fail
  refine (new_ok (M + 1) _ Z kN H_Z).mono ?_
  rintro e w1 ⟨ar, cr, rfl, d_r, hb⟩
  replace B := Below.thn B hb
  clear hb
  replace d_r := d_r.alloc (.cells #[.int .i64 (M + 1), .slice ar Z.length cr] 24)
  have s_r := St.new w1 (.int .i64 (M + 1)) (.slice ar Z.length cr)
  replace B := Below.thn B (below_alloc _ (.cells #[.int .i64 (M + 1), .slice ar Z.length cr] 24))
  obtain ⟨e0, e1, _, _⟩ := s_r.cells
  go_wp2_with fail
  refine (put_ok (M + 1) ar cr Z I V _ S q1 H_S d_r (okR_short kZ)).mono ?_
  rintro e w2 ⟨aS, cS, rfl, d_s, hb⟩
  clear e0 e1
  replace d_r := (d_r.up hb).alloc (.cells #[.int .i64 (M + 1), .slice aS S.length cS] 24)
  replace s_r := (s_r.up hb).alloc (.cells #[.int .i64 (M + 1), .slice aS S.length cS] 24)
  replace B := Below.thn (Below.thn B hb) (below_alloc _ (.cells #[.int .i64 (M + 1), .slice aS S.length cS] 24))
  clear hb
  replace d_s := d_s.alloc (.cells #[.int .i64 (M + 1), .slice aS S.length cS] 24)
  have s_s := St.new w2 (.int .i64 (M + 1)) (.slice aS S.length cS)
  obtain ⟨e0, e1, _, _⟩ := s_s.cells
  go_wp2_with fail
  refine (put_ok (M + 1) aS cS S K (3 - V) _ X q2 H_X d_s (okR_short kS)).mono ?_
  rintro e w3 ⟨ax, cx, rfl, d_x, hb⟩
  clear e0 e1 s_s d_s
  replace d_r := (d_r.up hb).alloc (.cells #[.int .i64 (M + 1), .slice ax X.length cx] 24)
  replace s_r := (s_r.up hb).alloc (.cells #[.int .i64 (M + 1), .slice ax X.length cx] 24)
  replace B := Below.thn (Below.thn B hb) (below_alloc _ (.cells #[.int .i64 (M + 1), .slice ax X.length cx] 24))
  clear hb
  replace d_x := d_x.alloc (.cells #[.int .i64 (M + 1), .slice ax X.length cx] 24)
  have s_x := St.new w3 (.int .i64 (M + 1)) (.slice ax X.length cx)
  obtain ⟨e0, e1, _, _⟩ := s_x.cells
  go_wp2_with fail
  refine (get_ok (M + 1) ax cx X I _ ga kX kI H_ga d_x (okR_short kX)).mono ?_
  rintro e w4 ⟨rfl, hb⟩
  clear e0 e1
  replace d_r := d_r.up hb
  replace s_r := s_r.up hb
  replace d_x := d_x.up hb
  replace s_x := s_x.up hb
  replace B := Below.thn B hb
  clear hb
  obtain ⟨e0, e1, _, _⟩ := s_x.cells
  go_wp2_with fail
  refine (get_ok (M + 1) ax cx X K _ (3 - V) kX kK H_g1 d_x (okR_short kX)).mono ?_
  rintro e w5 ⟨rfl, hb⟩
  clear e0 e1
  replace d_r := d_r.up hb
  replace s_r := s_r.up hb
  replace d_x := d_x.up hb
  replace s_x := s_x.up hb
  replace B := Below.thn B hb
  clear hb
  have hga3 : I ≠ K → ga = V := fun h => hga2.resolve_left h
  have hcut : I = K ∨ (¬ I = K ∧ (I != K) = true ∧ ga = V) := by
    by_cases h : I = K
    · exact .inl h
    · exact .inr ⟨h, by simpa using h, hga3 h⟩
  clear hga2 hga3
  rcases hcut with rfl | ⟨h, h', rfl⟩
  all_goals
    go_wp2
    go_loopw [19, 20] (fun a i wr => ∃ k c : Int, i = .int .i64 k ∧ a = .int .i64 c ∧ Step c0 c1 c2 c3 k c ∧
        Below w.heap.size w wr ∧ Rd wr ar Z ∧ St wr w1.heap.size (.int .i64 (M + 1)) (.slice ar Z.length cr) ∧ Rd wr ax X ∧ St wr w3.heap.size (.int .i64 (M + 1)) (.slice ax X.length cx)) (fun _ i _ => (4 - intOf i).toNat)
    case atStart => exact ⟨0, 0, rfl, rfl, .inl ⟨rfl, rfl⟩, B, d_r, s_r, d_x, s_x⟩
    case round =>
      clear B d_r s_r d_x s_x
      obtain ⟨k, c, rfl, rfl, hcase, B, d_r, s_r, d_x, s_x⟩ := hrel
      obtain ⟨e0, e1, _, _⟩ := s_x.cells
      obtain ⟨r0, r1, _, _⟩ := s_r.cells
      rcases hcase with ⟨rfl, rfl⟩ | ⟨rfl, rfl⟩ | ⟨rfl, rfl⟩ | ⟨rfl, rfl⟩ | ⟨rfl, rfl⟩
      · go_wp2_with fail
        refine (count_ok (M + 1) ax cx X 0 _ c0 kX (by decide) H_0 d_x (okR_short kX)).mono ?_
        rintro e w6 ⟨rfl, hb⟩
        clear e0 e1 r0 r1
        replace d_r := d_r.up hb
        replace s_r := s_r.up hb
        replace d_x := d_x.up hb
        replace s_x := s_x.up hb
        replace B := Below.thn B hb
        clear hb
        go_wp2
        go_roundw
        case rel => exact ⟨_, _, rfl, rfl, .inr (.inl ⟨by omega, by omega⟩), B, d_r, s_r, d_x, s_x⟩
        case measure => simp [intOf]
      · go_wp2_with fail
        refine (count_ok (M + 1) ax cx X 1 _ c1 kX (by decide) H_1 d_x (okR_short kX)).mono ?_
        rintro e w6 ⟨rfl, hb⟩
        clear e0 e1 r0 r1
        replace d_r := d_r.up hb
        replace s_r := s_r.up hb
        replace d_x := d_x.up hb
        replace s_x := s_x.up hb
        replace B := Below.thn B hb
        clear hb
        go_wp2
        go_roundw
        case rel => exact ⟨_, _, rfl, rfl, .inr (.inr (.inl ⟨by omega, by omega⟩)), B, d_r, s_r, d_x, s_x⟩
        case measure => simp [intOf]
      · go_wp2_with fail
        refine (count_ok (M + 1) ax cx X 2 _ c2 kX (by decide) H_2 d_x (okR_short kX)).mono ?_
        rintro e w6 ⟨rfl, hb⟩
        clear e0 e1 r0 r1
        replace d_r := d_r.up hb
        replace s_r := s_r.up hb
        replace d_x := d_x.up hb
        replace s_x := s_x.up hb
        replace B := Below.thn B hb
        clear hb
        go_wp2
        go_roundw
        case rel => exact ⟨_, _, rfl, rfl, .inr (.inr (.inr (.inl ⟨by omega, by omega⟩))), B, d_r, s_r, d_x, s_x⟩
        case measure => simp [intOf]
      · go_wp2_with fail
        refine (count_ok (M + 1) ax cx X 3 _ c3 kX (by decide) H_3 d_x (okR_short kX)).mono ?_
        rintro e w6 ⟨rfl, hb⟩
        clear e0 e1 r0 r1
        replace d_r := d_r.up hb
        replace s_r := s_r.up hb
        replace d_x := d_x.up hb
        replace s_x := s_x.up hb
        replace B := Below.thn B hb
        clear hb
        go_wp2
        go_roundw
        case rel => exact ⟨_, _, rfl, rfl, .inr (.inr (.inr (.inr ⟨by omega, by omega⟩))), B, d_r, s_r, d_x, s_x⟩
        case measure => simp [intOf]
      · go_wp2_with fail
        refine (count_ok (M + 1) ar cr Z 0 _ (M + 1) kZ (by decide) H_z d_r (okR_short kZ)).mono ?_
        rintro e w6 ⟨rfl, hb⟩
        clear e0 e1 r0 r1
        replace d_x := d_x.up hb
        replace s_x := s_x.up hb
        replace B := Below.thn B hb
        clear hb
        obtain ⟨e0, e1, _, _⟩ := s_x.cells
        have hsum : c0 + c1 + c2 + c3 = M + 1 := H_all
        go_wp2_with fail
        refine (check_ok (M + 1) ax cx X _ kX d_x (okR_short kX)).mono ?_
        rintro e w7 ⟨rfl, hb⟩
        replace B := Below.thn B hb
        clear e0 e1 hb
        go_wp2
        go_ret
        exact ⟨rfl, B⟩
end Go.Proofs.Ytmckdefemdcknaa
