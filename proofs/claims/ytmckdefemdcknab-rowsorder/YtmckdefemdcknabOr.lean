/-
  The walk of RowsOrder.
-/
import Derived.Test.YtmckdefemdcknabCt
namespace Go.Proofs.Ytmckdefemdcknab
open Go.RowKit
open RowsM

set_option maxRecDepth 100000 in
set_option maxHeartbeats 4000000 in
theorem order_any (n1 n2 n3 : Int) (ao bo co : Option Addr) (ca cb cc : Nat) (xs ys zs : List Nat) (w : World) (d_x : Rd w ao xs) (d_y : Rd w bo ys) (d_z : Rd w co zs) (l1 : xs.length ≤ 17592186043904) (l2 : ys.length ≤ 17592186043904) (l3 : zs.length ≤ 17592186043904) :
    Calls Try.prog 3 #[.agg #[.int .i64 n1, .slice ao xs.length ca], .agg #[.int .i64 n2, .slice bo ys.length cb], .agg #[.int .i64 n3, .slice co zs.length cc]] w fun e w' => e = .returned (.bool true) ∧ Below w.heap.size w w' := by
  have hx := d_x.lt
  have hy := d_y.lt
  have hz := d_z.lt
  obtain ⟨s_x, s_y, s_z⟩ := st_three w (.int .i64 n1) (.slice ao xs.length ca) (.int .i64 n2) (.slice bo ys.length cb) (.int .i64 n3) (.slice co zs.length cc)
  have B := Below.thn (below_two w (.cells #[.int .i64 n1, .slice ao xs.length ca] 24) (.cells #[.int .i64 n2, .slice bo ys.length cb] 24)) (below_alloc _ (.cells #[.int .i64 n3, .slice co zs.length cc] 24))
  replace d_x := d_x.up B
  replace d_y := d_y.up B
  replace d_z := d_z.up B
  cases hp : okP n1 n2 xs ys with
  | false =>
    go_enter Try.func3, Try.ntmps3
    go_wp2_with fail
    refine (awake_any _).mono ?_
    rintro e w1 ⟨rfl, hb⟩
    replace s_x := s_x.up hb
    replace d_x := d_x.up hb
    replace s_y := s_y.up hb
    replace d_y := d_y.up hb
    replace s_z := s_z.up hb
    replace d_z := d_z.up hb
    replace B := Below.thn B hb
    clear hb
    obtain ⟨c_x0, c_x1, _, _⟩ := s_x.cells
    obtain ⟨c_y0, c_y1, _, _⟩ := s_y.cells
    go_wp2_with fail
    refine (below_no n1 n2 ao bo ca cb xs ys _ hp d_x d_y l1 l2).mono ?_
    rintro e w2 ⟨rfl, hb⟩
    clear c_x0 c_x1 c_y0 c_y1
    replace s_x := s_x.up hb
    replace d_x := d_x.up hb
    replace s_y := s_y.up hb
    replace d_y := d_y.up hb
    replace s_z := s_z.up hb
    replace d_z := d_z.up hb
    replace B := Below.thn B hb
    clear hb
    obtain ⟨c_y0, c_y1, _, _⟩ := s_y.cells
    obtain ⟨c_x0, c_x1, _, _⟩ := s_x.cells
    go_wp2_with fail
    refine (below_no n2 n1 bo ao cb ca ys xs _ (okP_swap hp) d_y d_x l2 l1).mono ?_
    rintro e w3 ⟨rfl, hb⟩
    clear c_y0 c_y1 c_x0 c_x1
    replace s_x := s_x.up hb
    replace d_x := d_x.up hb
    replace s_y := s_y.up hb
    replace d_y := d_y.up hb
    replace s_z := s_z.up hb
    replace d_z := d_z.up hb
    replace B := Below.thn B hb
    clear hb
    go_wp2
    go_ret
    exact ⟨rfl, B⟩
  | true =>
    obtain ⟨k_xs, k_ys, hn⟩ := okP_parts hp
    subst hn
    clear hp
    have hl := okR_len k_xs k_ys
    obtain ⟨J, hJ⟩ : ∃ J, List.zipWith joinW xs ys = J := ⟨_, rfl⟩
    obtain ⟨M, hM⟩ : ∃ M, List.zipWith meetW xs ys = M := ⟨_, rfl⟩
    have k_J : okR n1 J = true := by rw [← hJ]; exact okR_join hx hy k_xs k_ys
    have k_M : okR n1 M = true := by rw [← hM]; exact okR_meet hx hy k_xs k_ys
    have H_hJ : Hid (List.zipWith joinW xs ys = J) := hJ
    have H_hM : Hid (List.zipWith meetW xs ys = M) := hM
    have fS := below_anti hx hy hl
    have fJ := below_by_join hx hy hl
    have fM := below_by_meet hx hy hl
    rw [hJ] at fJ
    rw [hM] at fM
    have H_t : Hid (belowL xs ys = true → belowL ys zs = true → belowL xs zs = true) := fun h g => below_trans hx hy hz hl h g
    have fo := below_self hx
    have H_fo : Hid (belowL xs xs = true) := fo
    clear hJ hM fo hl
    cases ha : belowL xs ys <;> cases hb0 : belowL ys xs
    · rw [ha, hb0] at fS
      rw [ha] at fJ fM
      have H_a : Hid (belowL xs ys = false) := ha
      have H_b : Hid (belowL ys xs = false) := hb0
      have H_S : Hid ((xs == ys) = false) := fS.symm
      have H_J : Hid ((J == ys) = false) := fJ.symm
      have H_M : Hid ((M == xs) = false) := fM.symm
      clear fS fJ fM ha hb0
      go_enter Try.func3, Try.ntmps3
      go_wp2_with fail
      refine (awake_any _).mono ?_
      rintro e w1 ⟨rfl, hb⟩
      replace s_x := s_x.up hb
      replace d_x := d_x.up hb
      replace s_y := s_y.up hb
      replace d_y := d_y.up hb
      replace s_z := s_z.up hb
      replace d_z := d_z.up hb
      replace B := Below.thn B hb
      clear hb
      obtain ⟨c_x0, c_x1, _, _⟩ := s_x.cells
      obtain ⟨c_y0, c_y1, _, _⟩ := s_y.cells
      go_wp2_with fail
      refine (below_ok n1 ao bo ca cb xs ys _ false k_xs k_ys H_a d_x d_y (okR_short k_xs) (okR_short k_ys)).mono ?_
      rintro e w2 ⟨rfl, hb⟩
      clear c_x0 c_x1 c_y0 c_y1
      replace s_x := s_x.up hb
      replace d_x := d_x.up hb
      replace s_y := s_y.up hb
      replace d_y := d_y.up hb
      replace s_z := s_z.up hb
      replace d_z := d_z.up hb
      replace B := Below.thn B hb
      clear hb
      obtain ⟨c_y0, c_y1, _, _⟩ := s_y.cells
      obtain ⟨c_x0, c_x1, _, _⟩ := s_x.cells
      go_wp2_with fail
      refine (below_ok n1 bo ao cb ca ys xs _ false k_ys k_xs H_b d_y d_x (okR_short k_ys) (okR_short k_xs)).mono ?_
      rintro e w3 ⟨rfl, hb⟩
      clear c_y0 c_y1 c_x0 c_x1
      replace s_x := s_x.up hb
      replace d_x := d_x.up hb
      replace s_y := s_y.up hb
      replace d_y := d_y.up hb
      replace s_z := s_z.up hb
      replace d_z := d_z.up hb
      replace B := Below.thn B hb
      clear hb
      obtain ⟨c_x0, c_x1, _, _⟩ := s_x.cells
      go_wp2_with fail
      refine (below_ok n1 ao ao ca ca xs xs _ true k_xs k_xs H_fo d_x d_x (okR_short k_xs) (okR_short k_xs)).mono ?_
      rintro e w4 ⟨rfl, hb⟩
      clear c_x0 c_x1
      replace s_x := s_x.up hb
      replace d_x := d_x.up hb
      replace s_y := s_y.up hb
      replace d_y := d_y.up hb
      replace s_z := s_z.up hb
      replace d_z := d_z.up hb
      replace B := Below.thn B hb
      clear hb
      obtain ⟨c_x0, c_x1, _, _⟩ := s_x.cells
      obtain ⟨c_y0, c_y1, _, _⟩ := s_y.cells
      go_wp2_with fail
      refine (join_ok n1 ao bo ca cb xs ys J _ k_xs k_ys H_hJ d_x d_y (okR_short k_xs) (okR_short k_ys)).mono ?_
      rintro e w5 ⟨ao_j, ca_j, rfl, d_j, hb⟩
      clear c_x0 c_x1 c_y0 c_y1
      replace s_x := s_x.up hb
      replace d_x := d_x.up hb
      replace s_y := s_y.up hb
      replace d_y := d_y.up hb
      replace s_z := s_z.up hb
      replace d_z := d_z.up hb
      replace B := Below.thn B hb
      clear hb
      replace s_x := s_x.alloc (.cells #[.int .i64 n1, .slice ao_j J.length ca_j] 24)
      replace d_x := d_x.alloc (.cells #[.int .i64 n1, .slice ao_j J.length ca_j] 24)
      replace s_y := s_y.alloc (.cells #[.int .i64 n1, .slice ao_j J.length ca_j] 24)
      replace d_y := d_y.alloc (.cells #[.int .i64 n1, .slice ao_j J.length ca_j] 24)
      replace s_z := s_z.alloc (.cells #[.int .i64 n1, .slice ao_j J.length ca_j] 24)
      replace d_z := d_z.alloc (.cells #[.int .i64 n1, .slice ao_j J.length ca_j] 24)
      replace d_j := d_j.alloc (.cells #[.int .i64 n1, .slice ao_j J.length ca_j] 24)
      have s_j := St.new w5 (.int .i64 n1) (.slice ao_j J.length ca_j)
      replace B := Below.thn B (below_alloc _ (.cells #[.int .i64 n1, .slice ao_j J.length ca_j] 24))
      obtain ⟨c_x0, c_x1, _, _⟩ := s_x.cells
      obtain ⟨c_y0, c_y1, _, _⟩ := s_y.cells
      go_wp2_with fail
      refine (meet_ok n1 ao bo ca cb xs ys M _ k_xs k_ys H_hM d_x d_y (okR_short k_xs) (okR_short k_ys)).mono ?_
      rintro e w6 ⟨ao_m, ca_m, rfl, d_m, hb⟩
      clear c_x0 c_x1 c_y0 c_y1
      replace s_x := s_x.up hb
      replace d_x := d_x.up hb
      replace s_y := s_y.up hb
      replace d_y := d_y.up hb
      replace s_z := s_z.up hb
      replace d_z := d_z.up hb
      replace s_j := s_j.up hb
      replace d_j := d_j.up hb
      replace B := Below.thn B hb
      clear hb
      replace s_x := s_x.alloc (.cells #[.int .i64 n1, .slice ao_m M.length ca_m] 24)
      replace d_x := d_x.alloc (.cells #[.int .i64 n1, .slice ao_m M.length ca_m] 24)
      replace s_y := s_y.alloc (.cells #[.int .i64 n1, .slice ao_m M.length ca_m] 24)
      replace d_y := d_y.alloc (.cells #[.int .i64 n1, .slice ao_m M.length ca_m] 24)
      replace s_z := s_z.alloc (.cells #[.int .i64 n1, .slice ao_m M.length ca_m] 24)
      replace d_z := d_z.alloc (.cells #[.int .i64 n1, .slice ao_m M.length ca_m] 24)
      replace s_j := s_j.alloc (.cells #[.int .i64 n1, .slice ao_m M.length ca_m] 24)
      replace d_j := d_j.alloc (.cells #[.int .i64 n1, .slice ao_m M.length ca_m] 24)
      replace d_m := d_m.alloc (.cells #[.int .i64 n1, .slice ao_m M.length ca_m] 24)
      have s_m := St.new w6 (.int .i64 n1) (.slice ao_m M.length ca_m)
      replace B := Below.thn B (below_alloc _ (.cells #[.int .i64 n1, .slice ao_m M.length ca_m] 24))
      obtain ⟨c_x0, c_x1, _, _⟩ := s_x.cells
      obtain ⟨c_y0, c_y1, _, _⟩ := s_y.cells
      go_wp2_with fail
      refine (same_ok n1 ao bo ca cb xs ys _ false H_S d_x d_y (okR_short k_xs) (okR_short k_ys)).mono ?_
      rintro e w7 ⟨rfl, hb⟩
      clear c_x0 c_x1 c_y0 c_y1
      replace s_x := s_x.up hb
      replace d_x := d_x.up hb
      replace s_y := s_y.up hb
      replace d_y := d_y.up hb
      replace s_z := s_z.up hb
      replace d_z := d_z.up hb
      replace s_j := s_j.up hb
      replace d_j := d_j.up hb
      replace s_m := s_m.up hb
      replace d_m := d_m.up hb
      replace B := Below.thn B hb
      clear hb
      obtain ⟨c_j0, c_j1, _, _⟩ := s_j.cells
      obtain ⟨c_y0, c_y1, _, _⟩ := s_y.cells
      go_wp2_with fail
      refine (same_ok n1 ao_j bo ca_j cb J ys _ false H_J d_j d_y (okR_short k_J) (okR_short k_ys)).mono ?_
      rintro e w8 ⟨rfl, hb⟩
      clear c_j0 c_j1 c_y0 c_y1
      replace s_x := s_x.up hb
      replace d_x := d_x.up hb
      replace s_y := s_y.up hb
      replace d_y := d_y.up hb
      replace s_z := s_z.up hb
      replace d_z := d_z.up hb
      replace s_j := s_j.up hb
      replace d_j := d_j.up hb
      replace s_m := s_m.up hb
      replace d_m := d_m.up hb
      replace B := Below.thn B hb
      clear hb
      obtain ⟨c_m0, c_m1, _, _⟩ := s_m.cells
      obtain ⟨c_x0, c_x1, _, _⟩ := s_x.cells
      go_wp2_with fail
      refine (same_ok n1 ao_m ao ca_m ca M xs _ false H_M d_m d_x (okR_short k_M) (okR_short k_xs)).mono ?_
      rintro e w9 ⟨rfl, hb⟩
      clear c_m0 c_m1 c_x0 c_x1
      replace s_x := s_x.up hb
      replace d_x := d_x.up hb
      replace s_y := s_y.up hb
      replace d_y := d_y.up hb
      replace s_z := s_z.up hb
      replace d_z := d_z.up hb
      replace s_j := s_j.up hb
      replace d_j := d_j.up hb
      replace s_m := s_m.up hb
      replace d_m := d_m.up hb
      replace B := Below.thn B hb
      clear hb
      clear s_j d_j s_m d_m
      cases hq : okP n1 n3 ys zs with
      | false =>
        obtain ⟨c_y0, c_y1, _, _⟩ := s_y.cells
        obtain ⟨c_z0, c_z1, _, _⟩ := s_z.cells
        go_wp2_with fail
        refine (below_no n1 n3 bo co cb cc ys zs _ hq d_y d_z (okR_short k_ys) l3).mono ?_
        rintro e w10 ⟨rfl, hb⟩
        clear c_y0 c_y1 c_z0 c_z1
        replace s_x := s_x.up hb
        replace d_x := d_x.up hb
        replace s_y := s_y.up hb
        replace d_y := d_y.up hb
        replace s_z := s_z.up hb
        replace d_z := d_z.up hb
        replace B := Below.thn B hb
        clear hb
        obtain ⟨c_x0, c_x1, _, _⟩ := s_x.cells
        obtain ⟨c_z0, c_z1, _, _⟩ := s_z.cells
        go_wp2_with fail
        refine (below_no n1 n3 ao co ca cc xs zs _ (okP_not k_ys k_xs hq) d_x d_z (okR_short k_xs) l3).mono ?_
        rintro e w11 ⟨rfl, hb⟩
        clear c_x0 c_x1 c_z0 c_z1
        replace s_x := s_x.up hb
        replace d_x := d_x.up hb
        replace s_y := s_y.up hb
        replace d_y := d_y.up hb
        replace s_z := s_z.up hb
        replace d_z := d_z.up hb
        replace B := Below.thn B hb
        clear hb
        go_wp2
        go_ret
        exact ⟨rfl, B⟩
      | true =>
        obtain ⟨_, k_zs, hn⟩ := okP_parts hq
        subst hn
        clear hq
        obtain ⟨c_y0, c_y1, _, _⟩ := s_y.cells
        obtain ⟨c_z0, c_z1, _, _⟩ := s_z.cells
        go_wp2_with fail
        refine (below_ok n1 bo co cb cc ys zs _ (belowL ys zs) k_ys k_zs rfl d_y d_z (okR_short k_ys) (okR_short k_zs)).mono ?_
        rintro e w10 ⟨rfl, hb⟩
        clear c_y0 c_y1 c_z0 c_z1
        replace s_x := s_x.up hb
        replace d_x := d_x.up hb
        replace s_y := s_y.up hb
        replace d_y := d_y.up hb
        replace s_z := s_z.up hb
        replace d_z := d_z.up hb
        replace B := Below.thn B hb
        clear hb
        obtain ⟨c_x0, c_x1, _, _⟩ := s_x.cells
        obtain ⟨c_z0, c_z1, _, _⟩ := s_z.cells
        go_wp2_with fail
        refine (below_ok n1 ao co ca cc xs zs _ (belowL xs zs) k_xs k_zs rfl d_x d_z (okR_short k_xs) (okR_short k_zs)).mono ?_
        rintro e w11 ⟨rfl, hb⟩
        clear c_x0 c_x1 c_z0 c_z1
        replace s_x := s_x.up hb
        replace d_x := d_x.up hb
        replace s_y := s_y.up hb
        replace d_y := d_y.up hb
        replace s_z := s_z.up hb
        replace d_z := d_z.up hb
        replace B := Below.thn B hb
        clear hb
        cases belowL ys zs <;> cases belowL xs zs
        all_goals
          go_wp2
          go_ret
          exact ⟨rfl, B⟩
    · rw [ha, hb0] at fS
      rw [ha] at fJ fM
      have H_a : Hid (belowL xs ys = false) := ha
      have H_b : Hid (belowL ys xs = true) := hb0
      have H_S : Hid ((xs == ys) = false) := fS.symm
      have H_J : Hid ((J == ys) = false) := fJ.symm
      have H_M : Hid ((M == xs) = false) := fM.symm
      clear fS fJ fM ha hb0
      go_enter Try.func3, Try.ntmps3
      go_wp2_with fail
      refine (awake_any _).mono ?_
      rintro e w1 ⟨rfl, hb⟩
      replace s_x := s_x.up hb
      replace d_x := d_x.up hb
      replace s_y := s_y.up hb
      replace d_y := d_y.up hb
      replace s_z := s_z.up hb
      replace d_z := d_z.up hb
      replace B := Below.thn B hb
      clear hb
      obtain ⟨c_x0, c_x1, _, _⟩ := s_x.cells
      obtain ⟨c_y0, c_y1, _, _⟩ := s_y.cells
      go_wp2_with fail
      refine (below_ok n1 ao bo ca cb xs ys _ false k_xs k_ys H_a d_x d_y (okR_short k_xs) (okR_short k_ys)).mono ?_
      rintro e w2 ⟨rfl, hb⟩
      clear c_x0 c_x1 c_y0 c_y1
      replace s_x := s_x.up hb
      replace d_x := d_x.up hb
      replace s_y := s_y.up hb
      replace d_y := d_y.up hb
      replace s_z := s_z.up hb
      replace d_z := d_z.up hb
      replace B := Below.thn B hb
      clear hb
      obtain ⟨c_y0, c_y1, _, _⟩ := s_y.cells
      obtain ⟨c_x0, c_x1, _, _⟩ := s_x.cells
      go_wp2_with fail
      refine (below_ok n1 bo ao cb ca ys xs _ true k_ys k_xs H_b d_y d_x (okR_short k_ys) (okR_short k_xs)).mono ?_
      rintro e w3 ⟨rfl, hb⟩
      clear c_y0 c_y1 c_x0 c_x1
      replace s_x := s_x.up hb
      replace d_x := d_x.up hb
      replace s_y := s_y.up hb
      replace d_y := d_y.up hb
      replace s_z := s_z.up hb
      replace d_z := d_z.up hb
      replace B := Below.thn B hb
      clear hb
      obtain ⟨c_x0, c_x1, _, _⟩ := s_x.cells
      go_wp2_with fail
      refine (below_ok n1 ao ao ca ca xs xs _ true k_xs k_xs H_fo d_x d_x (okR_short k_xs) (okR_short k_xs)).mono ?_
      rintro e w4 ⟨rfl, hb⟩
      clear c_x0 c_x1
      replace s_x := s_x.up hb
      replace d_x := d_x.up hb
      replace s_y := s_y.up hb
      replace d_y := d_y.up hb
      replace s_z := s_z.up hb
      replace d_z := d_z.up hb
      replace B := Below.thn B hb
      clear hb
      obtain ⟨c_x0, c_x1, _, _⟩ := s_x.cells
      obtain ⟨c_y0, c_y1, _, _⟩ := s_y.cells
      go_wp2_with fail
      refine (join_ok n1 ao bo ca cb xs ys J _ k_xs k_ys H_hJ d_x d_y (okR_short k_xs) (okR_short k_ys)).mono ?_
      rintro e w5 ⟨ao_j, ca_j, rfl, d_j, hb⟩
      clear c_x0 c_x1 c_y0 c_y1
      replace s_x := s_x.up hb
      replace d_x := d_x.up hb
      replace s_y := s_y.up hb
      replace d_y := d_y.up hb
      replace s_z := s_z.up hb
      replace d_z := d_z.up hb
      replace B := Below.thn B hb
      clear hb
      replace s_x := s_x.alloc (.cells #[.int .i64 n1, .slice ao_j J.length ca_j] 24)
      replace d_x := d_x.alloc (.cells #[.int .i64 n1, .slice ao_j J.length ca_j] 24)
      replace s_y := s_y.alloc (.cells #[.int .i64 n1, .slice ao_j J.length ca_j] 24)
      replace d_y := d_y.alloc (.cells #[.int .i64 n1, .slice ao_j J.length ca_j] 24)
      replace s_z := s_z.alloc (.cells #[.int .i64 n1, .slice ao_j J.length ca_j] 24)
      replace d_z := d_z.alloc (.cells #[.int .i64 n1, .slice ao_j J.length ca_j] 24)
      replace d_j := d_j.alloc (.cells #[.int .i64 n1, .slice ao_j J.length ca_j] 24)
      have s_j := St.new w5 (.int .i64 n1) (.slice ao_j J.length ca_j)
      replace B := Below.thn B (below_alloc _ (.cells #[.int .i64 n1, .slice ao_j J.length ca_j] 24))
      obtain ⟨c_x0, c_x1, _, _⟩ := s_x.cells
      obtain ⟨c_y0, c_y1, _, _⟩ := s_y.cells
      go_wp2_with fail
      refine (meet_ok n1 ao bo ca cb xs ys M _ k_xs k_ys H_hM d_x d_y (okR_short k_xs) (okR_short k_ys)).mono ?_
      rintro e w6 ⟨ao_m, ca_m, rfl, d_m, hb⟩
      clear c_x0 c_x1 c_y0 c_y1
      replace s_x := s_x.up hb
      replace d_x := d_x.up hb
      replace s_y := s_y.up hb
      replace d_y := d_y.up hb
      replace s_z := s_z.up hb
      replace d_z := d_z.up hb
      replace s_j := s_j.up hb
      replace d_j := d_j.up hb
      replace B := Below.thn B hb
      clear hb
      replace s_x := s_x.alloc (.cells #[.int .i64 n1, .slice ao_m M.length ca_m] 24)
      replace d_x := d_x.alloc (.cells #[.int .i64 n1, .slice ao_m M.length ca_m] 24)
      replace s_y := s_y.alloc (.cells #[.int .i64 n1, .slice ao_m M.length ca_m] 24)
      replace d_y := d_y.alloc (.cells #[.int .i64 n1, .slice ao_m M.length ca_m] 24)
      replace s_z := s_z.alloc (.cells #[.int .i64 n1, .slice ao_m M.length ca_m] 24)
      replace d_z := d_z.alloc (.cells #[.int .i64 n1, .slice ao_m M.length ca_m] 24)
      replace s_j := s_j.alloc (.cells #[.int .i64 n1, .slice ao_m M.length ca_m] 24)
      replace d_j := d_j.alloc (.cells #[.int .i64 n1, .slice ao_m M.length ca_m] 24)
      replace d_m := d_m.alloc (.cells #[.int .i64 n1, .slice ao_m M.length ca_m] 24)
      have s_m := St.new w6 (.int .i64 n1) (.slice ao_m M.length ca_m)
      replace B := Below.thn B (below_alloc _ (.cells #[.int .i64 n1, .slice ao_m M.length ca_m] 24))
      obtain ⟨c_x0, c_x1, _, _⟩ := s_x.cells
      obtain ⟨c_y0, c_y1, _, _⟩ := s_y.cells
      go_wp2_with fail
      refine (same_ok n1 ao bo ca cb xs ys _ false H_S d_x d_y (okR_short k_xs) (okR_short k_ys)).mono ?_
      rintro e w7 ⟨rfl, hb⟩
      clear c_x0 c_x1 c_y0 c_y1
      replace s_x := s_x.up hb
      replace d_x := d_x.up hb
      replace s_y := s_y.up hb
      replace d_y := d_y.up hb
      replace s_z := s_z.up hb
      replace d_z := d_z.up hb
      replace s_j := s_j.up hb
      replace d_j := d_j.up hb
      replace s_m := s_m.up hb
      replace d_m := d_m.up hb
      replace B := Below.thn B hb
      clear hb
      obtain ⟨c_j0, c_j1, _, _⟩ := s_j.cells
      obtain ⟨c_y0, c_y1, _, _⟩ := s_y.cells
      go_wp2_with fail
      refine (same_ok n1 ao_j bo ca_j cb J ys _ false H_J d_j d_y (okR_short k_J) (okR_short k_ys)).mono ?_
      rintro e w8 ⟨rfl, hb⟩
      clear c_j0 c_j1 c_y0 c_y1
      replace s_x := s_x.up hb
      replace d_x := d_x.up hb
      replace s_y := s_y.up hb
      replace d_y := d_y.up hb
      replace s_z := s_z.up hb
      replace d_z := d_z.up hb
      replace s_j := s_j.up hb
      replace d_j := d_j.up hb
      replace s_m := s_m.up hb
      replace d_m := d_m.up hb
      replace B := Below.thn B hb
      clear hb
      obtain ⟨c_m0, c_m1, _, _⟩ := s_m.cells
      obtain ⟨c_x0, c_x1, _, _⟩ := s_x.cells
      go_wp2_with fail
      refine (same_ok n1 ao_m ao ca_m ca M xs _ false H_M d_m d_x (okR_short k_M) (okR_short k_xs)).mono ?_
      rintro e w9 ⟨rfl, hb⟩
      clear c_m0 c_m1 c_x0 c_x1
      replace s_x := s_x.up hb
      replace d_x := d_x.up hb
      replace s_y := s_y.up hb
      replace d_y := d_y.up hb
      replace s_z := s_z.up hb
      replace d_z := d_z.up hb
      replace s_j := s_j.up hb
      replace d_j := d_j.up hb
      replace s_m := s_m.up hb
      replace d_m := d_m.up hb
      replace B := Below.thn B hb
      clear hb
      clear s_j d_j s_m d_m
      cases hq : okP n1 n3 ys zs with
      | false =>
        obtain ⟨c_y0, c_y1, _, _⟩ := s_y.cells
        obtain ⟨c_z0, c_z1, _, _⟩ := s_z.cells
        go_wp2_with fail
        refine (below_no n1 n3 bo co cb cc ys zs _ hq d_y d_z (okR_short k_ys) l3).mono ?_
        rintro e w10 ⟨rfl, hb⟩
        clear c_y0 c_y1 c_z0 c_z1
        replace s_x := s_x.up hb
        replace d_x := d_x.up hb
        replace s_y := s_y.up hb
        replace d_y := d_y.up hb
        replace s_z := s_z.up hb
        replace d_z := d_z.up hb
        replace B := Below.thn B hb
        clear hb
        obtain ⟨c_x0, c_x1, _, _⟩ := s_x.cells
        obtain ⟨c_z0, c_z1, _, _⟩ := s_z.cells
        go_wp2_with fail
        refine (below_no n1 n3 ao co ca cc xs zs _ (okP_not k_ys k_xs hq) d_x d_z (okR_short k_xs) l3).mono ?_
        rintro e w11 ⟨rfl, hb⟩
        clear c_x0 c_x1 c_z0 c_z1
        replace s_x := s_x.up hb
        replace d_x := d_x.up hb
        replace s_y := s_y.up hb
        replace d_y := d_y.up hb
        replace s_z := s_z.up hb
        replace d_z := d_z.up hb
        replace B := Below.thn B hb
        clear hb
        go_wp2
        go_ret
        exact ⟨rfl, B⟩
      | true =>
        obtain ⟨_, k_zs, hn⟩ := okP_parts hq
        subst hn
        clear hq
        obtain ⟨c_y0, c_y1, _, _⟩ := s_y.cells
        obtain ⟨c_z0, c_z1, _, _⟩ := s_z.cells
        go_wp2_with fail
        refine (below_ok n1 bo co cb cc ys zs _ (belowL ys zs) k_ys k_zs rfl d_y d_z (okR_short k_ys) (okR_short k_zs)).mono ?_
        rintro e w10 ⟨rfl, hb⟩
        clear c_y0 c_y1 c_z0 c_z1
        replace s_x := s_x.up hb
        replace d_x := d_x.up hb
        replace s_y := s_y.up hb
        replace d_y := d_y.up hb
        replace s_z := s_z.up hb
        replace d_z := d_z.up hb
        replace B := Below.thn B hb
        clear hb
        obtain ⟨c_x0, c_x1, _, _⟩ := s_x.cells
        obtain ⟨c_z0, c_z1, _, _⟩ := s_z.cells
        go_wp2_with fail
        refine (below_ok n1 ao co ca cc xs zs _ (belowL xs zs) k_xs k_zs rfl d_x d_z (okR_short k_xs) (okR_short k_zs)).mono ?_
        rintro e w11 ⟨rfl, hb⟩
        clear c_x0 c_x1 c_z0 c_z1
        replace s_x := s_x.up hb
        replace d_x := d_x.up hb
        replace s_y := s_y.up hb
        replace d_y := d_y.up hb
        replace s_z := s_z.up hb
        replace d_z := d_z.up hb
        replace B := Below.thn B hb
        clear hb
        cases belowL ys zs <;> cases belowL xs zs
        all_goals
          go_wp2
          go_ret
          exact ⟨rfl, B⟩
    · rw [ha, hb0] at fS
      rw [ha] at fJ fM
      have H_a : Hid (belowL xs ys = true) := ha
      have H_b : Hid (belowL ys xs = false) := hb0
      have H_S : Hid ((xs == ys) = false) := fS.symm
      have H_J : Hid ((J == ys) = true) := fJ.symm
      have H_M : Hid ((M == xs) = true) := fM.symm
      clear fS fJ fM ha hb0
      go_enter Try.func3, Try.ntmps3
      go_wp2_with fail
      refine (awake_any _).mono ?_
      rintro e w1 ⟨rfl, hb⟩
      replace s_x := s_x.up hb
      replace d_x := d_x.up hb
      replace s_y := s_y.up hb
      replace d_y := d_y.up hb
      replace s_z := s_z.up hb
      replace d_z := d_z.up hb
      replace B := Below.thn B hb
      clear hb
      obtain ⟨c_x0, c_x1, _, _⟩ := s_x.cells
      obtain ⟨c_y0, c_y1, _, _⟩ := s_y.cells
      go_wp2_with fail
      refine (below_ok n1 ao bo ca cb xs ys _ true k_xs k_ys H_a d_x d_y (okR_short k_xs) (okR_short k_ys)).mono ?_
      rintro e w2 ⟨rfl, hb⟩
      clear c_x0 c_x1 c_y0 c_y1
      replace s_x := s_x.up hb
      replace d_x := d_x.up hb
      replace s_y := s_y.up hb
      replace d_y := d_y.up hb
      replace s_z := s_z.up hb
      replace d_z := d_z.up hb
      replace B := Below.thn B hb
      clear hb
      obtain ⟨c_y0, c_y1, _, _⟩ := s_y.cells
      obtain ⟨c_x0, c_x1, _, _⟩ := s_x.cells
      go_wp2_with fail
      refine (below_ok n1 bo ao cb ca ys xs _ false k_ys k_xs H_b d_y d_x (okR_short k_ys) (okR_short k_xs)).mono ?_
      rintro e w3 ⟨rfl, hb⟩
      clear c_y0 c_y1 c_x0 c_x1
      replace s_x := s_x.up hb
      replace d_x := d_x.up hb
      replace s_y := s_y.up hb
      replace d_y := d_y.up hb
      replace s_z := s_z.up hb
      replace d_z := d_z.up hb
      replace B := Below.thn B hb
      clear hb
      obtain ⟨c_x0, c_x1, _, _⟩ := s_x.cells
      go_wp2_with fail
      refine (below_ok n1 ao ao ca ca xs xs _ true k_xs k_xs H_fo d_x d_x (okR_short k_xs) (okR_short k_xs)).mono ?_
      rintro e w4 ⟨rfl, hb⟩
      clear c_x0 c_x1
      replace s_x := s_x.up hb
      replace d_x := d_x.up hb
      replace s_y := s_y.up hb
      replace d_y := d_y.up hb
      replace s_z := s_z.up hb
      replace d_z := d_z.up hb
      replace B := Below.thn B hb
      clear hb
      obtain ⟨c_x0, c_x1, _, _⟩ := s_x.cells
      obtain ⟨c_y0, c_y1, _, _⟩ := s_y.cells
      go_wp2_with fail
      refine (join_ok n1 ao bo ca cb xs ys J _ k_xs k_ys H_hJ d_x d_y (okR_short k_xs) (okR_short k_ys)).mono ?_
      rintro e w5 ⟨ao_j, ca_j, rfl, d_j, hb⟩
      clear c_x0 c_x1 c_y0 c_y1
      replace s_x := s_x.up hb
      replace d_x := d_x.up hb
      replace s_y := s_y.up hb
      replace d_y := d_y.up hb
      replace s_z := s_z.up hb
      replace d_z := d_z.up hb
      replace B := Below.thn B hb
      clear hb
      replace s_x := s_x.alloc (.cells #[.int .i64 n1, .slice ao_j J.length ca_j] 24)
      replace d_x := d_x.alloc (.cells #[.int .i64 n1, .slice ao_j J.length ca_j] 24)
      replace s_y := s_y.alloc (.cells #[.int .i64 n1, .slice ao_j J.length ca_j] 24)
      replace d_y := d_y.alloc (.cells #[.int .i64 n1, .slice ao_j J.length ca_j] 24)
      replace s_z := s_z.alloc (.cells #[.int .i64 n1, .slice ao_j J.length ca_j] 24)
      replace d_z := d_z.alloc (.cells #[.int .i64 n1, .slice ao_j J.length ca_j] 24)
      replace d_j := d_j.alloc (.cells #[.int .i64 n1, .slice ao_j J.length ca_j] 24)
      have s_j := St.new w5 (.int .i64 n1) (.slice ao_j J.length ca_j)
      replace B := Below.thn B (below_alloc _ (.cells #[.int .i64 n1, .slice ao_j J.length ca_j] 24))
      obtain ⟨c_x0, c_x1, _, _⟩ := s_x.cells
      obtain ⟨c_y0, c_y1, _, _⟩ := s_y.cells
      go_wp2_with fail
      refine (meet_ok n1 ao bo ca cb xs ys M _ k_xs k_ys H_hM d_x d_y (okR_short k_xs) (okR_short k_ys)).mono ?_
      rintro e w6 ⟨ao_m, ca_m, rfl, d_m, hb⟩
      clear c_x0 c_x1 c_y0 c_y1
      replace s_x := s_x.up hb
      replace d_x := d_x.up hb
      replace s_y := s_y.up hb
      replace d_y := d_y.up hb
      replace s_z := s_z.up hb
      replace d_z := d_z.up hb
      replace s_j := s_j.up hb
      replace d_j := d_j.up hb
      replace B := Below.thn B hb
      clear hb
      replace s_x := s_x.alloc (.cells #[.int .i64 n1, .slice ao_m M.length ca_m] 24)
      replace d_x := d_x.alloc (.cells #[.int .i64 n1, .slice ao_m M.length ca_m] 24)
      replace s_y := s_y.alloc (.cells #[.int .i64 n1, .slice ao_m M.length ca_m] 24)
      replace d_y := d_y.alloc (.cells #[.int .i64 n1, .slice ao_m M.length ca_m] 24)
      replace s_z := s_z.alloc (.cells #[.int .i64 n1, .slice ao_m M.length ca_m] 24)
      replace d_z := d_z.alloc (.cells #[.int .i64 n1, .slice ao_m M.length ca_m] 24)
      replace s_j := s_j.alloc (.cells #[.int .i64 n1, .slice ao_m M.length ca_m] 24)
      replace d_j := d_j.alloc (.cells #[.int .i64 n1, .slice ao_m M.length ca_m] 24)
      replace d_m := d_m.alloc (.cells #[.int .i64 n1, .slice ao_m M.length ca_m] 24)
      have s_m := St.new w6 (.int .i64 n1) (.slice ao_m M.length ca_m)
      replace B := Below.thn B (below_alloc _ (.cells #[.int .i64 n1, .slice ao_m M.length ca_m] 24))
      obtain ⟨c_x0, c_x1, _, _⟩ := s_x.cells
      obtain ⟨c_y0, c_y1, _, _⟩ := s_y.cells
      go_wp2_with fail
      refine (same_ok n1 ao bo ca cb xs ys _ false H_S d_x d_y (okR_short k_xs) (okR_short k_ys)).mono ?_
      rintro e w7 ⟨rfl, hb⟩
      clear c_x0 c_x1 c_y0 c_y1
      replace s_x := s_x.up hb
      replace d_x := d_x.up hb
      replace s_y := s_y.up hb
      replace d_y := d_y.up hb
      replace s_z := s_z.up hb
      replace d_z := d_z.up hb
      replace s_j := s_j.up hb
      replace d_j := d_j.up hb
      replace s_m := s_m.up hb
      replace d_m := d_m.up hb
      replace B := Below.thn B hb
      clear hb
      obtain ⟨c_j0, c_j1, _, _⟩ := s_j.cells
      obtain ⟨c_y0, c_y1, _, _⟩ := s_y.cells
      go_wp2_with fail
      refine (same_ok n1 ao_j bo ca_j cb J ys _ true H_J d_j d_y (okR_short k_J) (okR_short k_ys)).mono ?_
      rintro e w8 ⟨rfl, hb⟩
      clear c_j0 c_j1 c_y0 c_y1
      replace s_x := s_x.up hb
      replace d_x := d_x.up hb
      replace s_y := s_y.up hb
      replace d_y := d_y.up hb
      replace s_z := s_z.up hb
      replace d_z := d_z.up hb
      replace s_j := s_j.up hb
      replace d_j := d_j.up hb
      replace s_m := s_m.up hb
      replace d_m := d_m.up hb
      replace B := Below.thn B hb
      clear hb
      obtain ⟨c_m0, c_m1, _, _⟩ := s_m.cells
      obtain ⟨c_x0, c_x1, _, _⟩ := s_x.cells
      go_wp2_with fail
      refine (same_ok n1 ao_m ao ca_m ca M xs _ true H_M d_m d_x (okR_short k_M) (okR_short k_xs)).mono ?_
      rintro e w9 ⟨rfl, hb⟩
      clear c_m0 c_m1 c_x0 c_x1
      replace s_x := s_x.up hb
      replace d_x := d_x.up hb
      replace s_y := s_y.up hb
      replace d_y := d_y.up hb
      replace s_z := s_z.up hb
      replace d_z := d_z.up hb
      replace s_j := s_j.up hb
      replace d_j := d_j.up hb
      replace s_m := s_m.up hb
      replace d_m := d_m.up hb
      replace B := Below.thn B hb
      clear hb
      clear s_j d_j s_m d_m
      cases hq : okP n1 n3 ys zs with
      | false =>
        obtain ⟨c_y0, c_y1, _, _⟩ := s_y.cells
        obtain ⟨c_z0, c_z1, _, _⟩ := s_z.cells
        go_wp2_with fail
        refine (below_no n1 n3 bo co cb cc ys zs _ hq d_y d_z (okR_short k_ys) l3).mono ?_
        rintro e w10 ⟨rfl, hb⟩
        clear c_y0 c_y1 c_z0 c_z1
        replace s_x := s_x.up hb
        replace d_x := d_x.up hb
        replace s_y := s_y.up hb
        replace d_y := d_y.up hb
        replace s_z := s_z.up hb
        replace d_z := d_z.up hb
        replace B := Below.thn B hb
        clear hb
        obtain ⟨c_x0, c_x1, _, _⟩ := s_x.cells
        obtain ⟨c_z0, c_z1, _, _⟩ := s_z.cells
        go_wp2_with fail
        refine (below_no n1 n3 ao co ca cc xs zs _ (okP_not k_ys k_xs hq) d_x d_z (okR_short k_xs) l3).mono ?_
        rintro e w11 ⟨rfl, hb⟩
        clear c_x0 c_x1 c_z0 c_z1
        replace s_x := s_x.up hb
        replace d_x := d_x.up hb
        replace s_y := s_y.up hb
        replace d_y := d_y.up hb
        replace s_z := s_z.up hb
        replace d_z := d_z.up hb
        replace B := Below.thn B hb
        clear hb
        go_wp2
        go_ret
        exact ⟨rfl, B⟩
      | true =>
        obtain ⟨_, k_zs, hn⟩ := okP_parts hq
        subst hn
        clear hq
        obtain ⟨c_y0, c_y1, _, _⟩ := s_y.cells
        obtain ⟨c_z0, c_z1, _, _⟩ := s_z.cells
        go_wp2_with fail
        refine (below_ok n1 bo co cb cc ys zs _ (belowL ys zs) k_ys k_zs rfl d_y d_z (okR_short k_ys) (okR_short k_zs)).mono ?_
        rintro e w10 ⟨rfl, hb⟩
        clear c_y0 c_y1 c_z0 c_z1
        replace s_x := s_x.up hb
        replace d_x := d_x.up hb
        replace s_y := s_y.up hb
        replace d_y := d_y.up hb
        replace s_z := s_z.up hb
        replace d_z := d_z.up hb
        replace B := Below.thn B hb
        clear hb
        obtain ⟨c_x0, c_x1, _, _⟩ := s_x.cells
        obtain ⟨c_z0, c_z1, _, _⟩ := s_z.cells
        go_wp2_with fail
        refine (below_ok n1 ao co ca cc xs zs _ (belowL xs zs) k_xs k_zs rfl d_x d_z (okR_short k_xs) (okR_short k_zs)).mono ?_
        rintro e w11 ⟨rfl, hb⟩
        clear c_x0 c_x1 c_z0 c_z1
        replace s_x := s_x.up hb
        replace d_x := d_x.up hb
        replace s_y := s_y.up hb
        replace d_y := d_y.up hb
        replace s_z := s_z.up hb
        replace d_z := d_z.up hb
        replace B := Below.thn B hb
        clear hb
        cases hc : belowL ys zs with
        | false =>
          cases belowL xs zs
          all_goals
            go_wp2
            go_ret
            exact ⟨rfl, B⟩
        | true =>
          rw [(show _ → _ → _ from H_t) H_a hc]
          go_wp2
          go_ret
          exact ⟨rfl, B⟩
    · rw [ha, hb0] at fS
      rw [ha] at fJ fM
      have H_a : Hid (belowL xs ys = true) := ha
      have H_b : Hid (belowL ys xs = true) := hb0
      have H_S : Hid ((xs == ys) = true) := fS.symm
      have H_J : Hid ((J == ys) = true) := fJ.symm
      have H_M : Hid ((M == xs) = true) := fM.symm
      clear fS fJ fM ha hb0
      go_enter Try.func3, Try.ntmps3
      go_wp2_with fail
      refine (awake_any _).mono ?_
      rintro e w1 ⟨rfl, hb⟩
      replace s_x := s_x.up hb
      replace d_x := d_x.up hb
      replace s_y := s_y.up hb
      replace d_y := d_y.up hb
      replace s_z := s_z.up hb
      replace d_z := d_z.up hb
      replace B := Below.thn B hb
      clear hb
      obtain ⟨c_x0, c_x1, _, _⟩ := s_x.cells
      obtain ⟨c_y0, c_y1, _, _⟩ := s_y.cells
      go_wp2_with fail
      refine (below_ok n1 ao bo ca cb xs ys _ true k_xs k_ys H_a d_x d_y (okR_short k_xs) (okR_short k_ys)).mono ?_
      rintro e w2 ⟨rfl, hb⟩
      clear c_x0 c_x1 c_y0 c_y1
      replace s_x := s_x.up hb
      replace d_x := d_x.up hb
      replace s_y := s_y.up hb
      replace d_y := d_y.up hb
      replace s_z := s_z.up hb
      replace d_z := d_z.up hb
      replace B := Below.thn B hb
      clear hb
      obtain ⟨c_y0, c_y1, _, _⟩ := s_y.cells
      obtain ⟨c_x0, c_x1, _, _⟩ := s_x.cells
      go_wp2_with fail
      refine (below_ok n1 bo ao cb ca ys xs _ true k_ys k_xs H_b d_y d_x (okR_short k_ys) (okR_short k_xs)).mono ?_
      rintro e w3 ⟨rfl, hb⟩
      clear c_y0 c_y1 c_x0 c_x1
      replace s_x := s_x.up hb
      replace d_x := d_x.up hb
      replace s_y := s_y.up hb
      replace d_y := d_y.up hb
      replace s_z := s_z.up hb
      replace d_z := d_z.up hb
      replace B := Below.thn B hb
      clear hb
      obtain ⟨c_x0, c_x1, _, _⟩ := s_x.cells
      go_wp2_with fail
      refine (below_ok n1 ao ao ca ca xs xs _ true k_xs k_xs H_fo d_x d_x (okR_short k_xs) (okR_short k_xs)).mono ?_
      rintro e w4 ⟨rfl, hb⟩
      clear c_x0 c_x1
      replace s_x := s_x.up hb
      replace d_x := d_x.up hb
      replace s_y := s_y.up hb
      replace d_y := d_y.up hb
      replace s_z := s_z.up hb
      replace d_z := d_z.up hb
      replace B := Below.thn B hb
      clear hb
      obtain ⟨c_x0, c_x1, _, _⟩ := s_x.cells
      obtain ⟨c_y0, c_y1, _, _⟩ := s_y.cells
      go_wp2_with fail
      refine (join_ok n1 ao bo ca cb xs ys J _ k_xs k_ys H_hJ d_x d_y (okR_short k_xs) (okR_short k_ys)).mono ?_
      rintro e w5 ⟨ao_j, ca_j, rfl, d_j, hb⟩
      clear c_x0 c_x1 c_y0 c_y1
      replace s_x := s_x.up hb
      replace d_x := d_x.up hb
      replace s_y := s_y.up hb
      replace d_y := d_y.up hb
      replace s_z := s_z.up hb
      replace d_z := d_z.up hb
      replace B := Below.thn B hb
      clear hb
      replace s_x := s_x.alloc (.cells #[.int .i64 n1, .slice ao_j J.length ca_j] 24)
      replace d_x := d_x.alloc (.cells #[.int .i64 n1, .slice ao_j J.length ca_j] 24)
      replace s_y := s_y.alloc (.cells #[.int .i64 n1, .slice ao_j J.length ca_j] 24)
      replace d_y := d_y.alloc (.cells #[.int .i64 n1, .slice ao_j J.length ca_j] 24)
      replace s_z := s_z.alloc (.cells #[.int .i64 n1, .slice ao_j J.length ca_j] 24)
      replace d_z := d_z.alloc (.cells #[.int .i64 n1, .slice ao_j J.length ca_j] 24)
      replace d_j := d_j.alloc (.cells #[.int .i64 n1, .slice ao_j J.length ca_j] 24)
      have s_j := St.new w5 (.int .i64 n1) (.slice ao_j J.length ca_j)
      replace B := Below.thn B (below_alloc _ (.cells #[.int .i64 n1, .slice ao_j J.length ca_j] 24))
      obtain ⟨c_x0, c_x1, _, _⟩ := s_x.cells
      obtain ⟨c_y0, c_y1, _, _⟩ := s_y.cells
      go_wp2_with fail
      refine (meet_ok n1 ao bo ca cb xs ys M _ k_xs k_ys H_hM d_x d_y (okR_short k_xs) (okR_short k_ys)).mono ?_
      rintro e w6 ⟨ao_m, ca_m, rfl, d_m, hb⟩
      clear c_x0 c_x1 c_y0 c_y1
      replace s_x := s_x.up hb
      replace d_x := d_x.up hb
      replace s_y := s_y.up hb
      replace d_y := d_y.up hb
      replace s_z := s_z.up hb
      replace d_z := d_z.up hb
      replace s_j := s_j.up hb
      replace d_j := d_j.up hb
      replace B := Below.thn B hb
      clear hb
      replace s_x := s_x.alloc (.cells #[.int .i64 n1, .slice ao_m M.length ca_m] 24)
      replace d_x := d_x.alloc (.cells #[.int .i64 n1, .slice ao_m M.length ca_m] 24)
      replace s_y := s_y.alloc (.cells #[.int .i64 n1, .slice ao_m M.length ca_m] 24)
      replace d_y := d_y.alloc (.cells #[.int .i64 n1, .slice ao_m M.length ca_m] 24)
      replace s_z := s_z.alloc (.cells #[.int .i64 n1, .slice ao_m M.length ca_m] 24)
      replace d_z := d_z.alloc (.cells #[.int .i64 n1, .slice ao_m M.length ca_m] 24)
      replace s_j := s_j.alloc (.cells #[.int .i64 n1, .slice ao_m M.length ca_m] 24)
      replace d_j := d_j.alloc (.cells #[.int .i64 n1, .slice ao_m M.length ca_m] 24)
      replace d_m := d_m.alloc (.cells #[.int .i64 n1, .slice ao_m M.length ca_m] 24)
      have s_m := St.new w6 (.int .i64 n1) (.slice ao_m M.length ca_m)
      replace B := Below.thn B (below_alloc _ (.cells #[.int .i64 n1, .slice ao_m M.length ca_m] 24))
      obtain ⟨c_x0, c_x1, _, _⟩ := s_x.cells
      obtain ⟨c_y0, c_y1, _, _⟩ := s_y.cells
      go_wp2_with fail
      refine (same_ok n1 ao bo ca cb xs ys _ true H_S d_x d_y (okR_short k_xs) (okR_short k_ys)).mono ?_
      rintro e w7 ⟨rfl, hb⟩
      clear c_x0 c_x1 c_y0 c_y1
      replace s_x := s_x.up hb
      replace d_x := d_x.up hb
      replace s_y := s_y.up hb
      replace d_y := d_y.up hb
      replace s_z := s_z.up hb
      replace d_z := d_z.up hb
      replace s_j := s_j.up hb
      replace d_j := d_j.up hb
      replace s_m := s_m.up hb
      replace d_m := d_m.up hb
      replace B := Below.thn B hb
      clear hb
      obtain ⟨c_j0, c_j1, _, _⟩ := s_j.cells
      obtain ⟨c_y0, c_y1, _, _⟩ := s_y.cells
      go_wp2_with fail
      refine (same_ok n1 ao_j bo ca_j cb J ys _ true H_J d_j d_y (okR_short k_J) (okR_short k_ys)).mono ?_
      rintro e w8 ⟨rfl, hb⟩
      clear c_j0 c_j1 c_y0 c_y1
      replace s_x := s_x.up hb
      replace d_x := d_x.up hb
      replace s_y := s_y.up hb
      replace d_y := d_y.up hb
      replace s_z := s_z.up hb
      replace d_z := d_z.up hb
      replace s_j := s_j.up hb
      replace d_j := d_j.up hb
      replace s_m := s_m.up hb
      replace d_m := d_m.up hb
      replace B := Below.thn B hb
      clear hb
      obtain ⟨c_m0, c_m1, _, _⟩ := s_m.cells
      obtain ⟨c_x0, c_x1, _, _⟩ := s_x.cells
      go_wp2_with fail
      refine (same_ok n1 ao_m ao ca_m ca M xs _ true H_M d_m d_x (okR_short k_M) (okR_short k_xs)).mono ?_
      rintro e w9 ⟨rfl, hb⟩
      clear c_m0 c_m1 c_x0 c_x1
      replace s_x := s_x.up hb
      replace d_x := d_x.up hb
      replace s_y := s_y.up hb
      replace d_y := d_y.up hb
      replace s_z := s_z.up hb
      replace d_z := d_z.up hb
      replace s_j := s_j.up hb
      replace d_j := d_j.up hb
      replace s_m := s_m.up hb
      replace d_m := d_m.up hb
      replace B := Below.thn B hb
      clear hb
      clear s_j d_j s_m d_m
      cases hq : okP n1 n3 ys zs with
      | false =>
        obtain ⟨c_y0, c_y1, _, _⟩ := s_y.cells
        obtain ⟨c_z0, c_z1, _, _⟩ := s_z.cells
        go_wp2_with fail
        refine (below_no n1 n3 bo co cb cc ys zs _ hq d_y d_z (okR_short k_ys) l3).mono ?_
        rintro e w10 ⟨rfl, hb⟩
        clear c_y0 c_y1 c_z0 c_z1
        replace s_x := s_x.up hb
        replace d_x := d_x.up hb
        replace s_y := s_y.up hb
        replace d_y := d_y.up hb
        replace s_z := s_z.up hb
        replace d_z := d_z.up hb
        replace B := Below.thn B hb
        clear hb
        obtain ⟨c_x0, c_x1, _, _⟩ := s_x.cells
        obtain ⟨c_z0, c_z1, _, _⟩ := s_z.cells
        go_wp2_with fail
        refine (below_no n1 n3 ao co ca cc xs zs _ (okP_not k_ys k_xs hq) d_x d_z (okR_short k_xs) l3).mono ?_
        rintro e w11 ⟨rfl, hb⟩
        clear c_x0 c_x1 c_z0 c_z1
        replace s_x := s_x.up hb
        replace d_x := d_x.up hb
        replace s_y := s_y.up hb
        replace d_y := d_y.up hb
        replace s_z := s_z.up hb
        replace d_z := d_z.up hb
        replace B := Below.thn B hb
        clear hb
        go_wp2
        go_ret
        exact ⟨rfl, B⟩
      | true =>
        obtain ⟨_, k_zs, hn⟩ := okP_parts hq
        subst hn
        clear hq
        obtain ⟨c_y0, c_y1, _, _⟩ := s_y.cells
        obtain ⟨c_z0, c_z1, _, _⟩ := s_z.cells
        go_wp2_with fail
        refine (below_ok n1 bo co cb cc ys zs _ (belowL ys zs) k_ys k_zs rfl d_y d_z (okR_short k_ys) (okR_short k_zs)).mono ?_
        rintro e w10 ⟨rfl, hb⟩
        clear c_y0 c_y1 c_z0 c_z1
        replace s_x := s_x.up hb
        replace d_x := d_x.up hb
        replace s_y := s_y.up hb
        replace d_y := d_y.up hb
        replace s_z := s_z.up hb
        replace d_z := d_z.up hb
        replace B := Below.thn B hb
        clear hb
        obtain ⟨c_x0, c_x1, _, _⟩ := s_x.cells
        obtain ⟨c_z0, c_z1, _, _⟩ := s_z.cells
        go_wp2_with fail
        refine (below_ok n1 ao co ca cc xs zs _ (belowL xs zs) k_xs k_zs rfl d_x d_z (okR_short k_xs) (okR_short k_zs)).mono ?_
        rintro e w11 ⟨rfl, hb⟩
        clear c_x0 c_x1 c_z0 c_z1
        replace s_x := s_x.up hb
        replace d_x := d_x.up hb
        replace s_y := s_y.up hb
        replace d_y := d_y.up hb
        replace s_z := s_z.up hb
        replace d_z := d_z.up hb
        replace B := Below.thn B hb
        clear hb
        cases hc : belowL ys zs with
        | false =>
          cases belowL xs zs
          all_goals
            go_wp2
            go_ret
            exact ⟨rfl, B⟩
        | true =>
          rw [(show _ → _ → _ from H_t) H_a hc]
          go_wp2
          go_ret
          exact ⟨rfl, B⟩
end Go.Proofs.Ytmckdefemdcknab
