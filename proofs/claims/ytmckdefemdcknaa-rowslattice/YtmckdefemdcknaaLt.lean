/-
  The walk of RowsLattice.
-/
import Derived.Test.YtmckdefemdcknaaCt
namespace Go.Proofs.Ytmckdefemdcknaa
open Go.RowKit
open RowsM

set_option maxRecDepth 100000 in
set_option maxHeartbeats 4000000 in
theorem lattice_any (n1 n2 n3 : Int) (ao bo co : Option Addr) (ca cb cc : Nat) (xs ys zs : List Nat) (w : World) (d_x : Rd w ao xs) (d_y : Rd w bo ys) (d_z : Rd w co zs) (l1 : xs.length ≤ 17592186043904) (l2 : ys.length ≤ 17592186043904) (l3 : zs.length ≤ 17592186043904) :
    Calls Try.prog 6 #[.agg #[.int .i64 n1, .slice ao xs.length ca], .agg #[.int .i64 n2, .slice bo ys.length cb], .agg #[.int .i64 n3, .slice co zs.length cc]] w fun e w' => e = .returned (.bool true) ∧ Below w.heap.size w w' := by
  have hx := d_x.lt
  have hy := d_y.lt
  have hz := d_z.lt
  obtain ⟨s_x, s_y, s_z⟩ := st_three w (.int .i64 n1) (.slice ao xs.length ca) (.int .i64 n2) (.slice bo ys.length cb) (.int .i64 n3) (.slice co zs.length cc)
  have B := Below.thn (below_two w (.cells #[.int .i64 n1, .slice ao xs.length ca] 24) (.cells #[.int .i64 n2, .slice bo ys.length cb] 24)) (below_alloc _ (.cells #[.int .i64 n3, .slice co zs.length cc] 24))
  replace d_x := d_x.up B
  replace d_y := d_y.up B
  replace d_z := d_z.up B
  cases hp : okP n1 n2 xs ys with
  | false =>
    go_enter Try.func6, Try.ntmps6
    go_wp2_with fail
    refine (awake_any _).mono ?_
    rintro e w1 ⟨rfl, hb⟩
    replace s_x := s_x.up hb
    replace d_x := d_x.up hb
    replace s_y := s_y.up hb
    replace d_y := d_y.up hb
    replace s_z := s_z.up hb
    replace d_z := d_z.up hb
    replace B := Below.thn B hb
    clear hb
    obtain ⟨c_x0, c_x1, _, _⟩ := s_x.cells
    obtain ⟨c_y0, c_y1, _, _⟩ := s_y.cells
    go_wp2_with fail
    refine (join_no n1 n2 ao bo ca cb xs ys _ hp d_x d_y l1 l2).mono ?_
    rintro e w2 ⟨ao_j, ca_j, rfl, hb⟩
    clear c_x0 c_x1 c_y0 c_y1
    replace s_x := s_x.up hb
    replace d_x := d_x.up hb
    replace s_y := s_y.up hb
    replace d_y := d_y.up hb
    replace s_z := s_z.up hb
    replace d_z := d_z.up hb
    replace B := Below.thn B hb
    clear hb
    replace s_x := s_x.alloc (.cells #[.int .i64 0, .slice ao_j 0 ca_j] 24)
    replace d_x := d_x.alloc (.cells #[.int .i64 0, .slice ao_j 0 ca_j] 24)
    replace s_y := s_y.alloc (.cells #[.int .i64 0, .slice ao_j 0 ca_j] 24)
    replace d_y := d_y.alloc (.cells #[.int .i64 0, .slice ao_j 0 ca_j] 24)
    replace s_z := s_z.alloc (.cells #[.int .i64 0, .slice ao_j 0 ca_j] 24)
    replace d_z := d_z.alloc (.cells #[.int .i64 0, .slice ao_j 0 ca_j] 24)
    have s_j := St.new w2 (.int .i64 0) (.slice ao_j 0 ca_j)
    replace B := Below.thn B (below_alloc _ (.cells #[.int .i64 0, .slice ao_j 0 ca_j] 24))
    obtain ⟨c_x0, c_x1, _, _⟩ := s_x.cells
    obtain ⟨c_y0, c_y1, _, _⟩ := s_y.cells
    go_wp2_with fail
    refine (meet_no n1 n2 ao bo ca cb xs ys _ hp d_x d_y l1 l2).mono ?_
    rintro e w3 ⟨ao_m, ca_m, rfl, hb⟩
    clear c_x0 c_x1 c_y0 c_y1
    replace s_x := s_x.up hb
    replace d_x := d_x.up hb
    replace s_y := s_y.up hb
    replace d_y := d_y.up hb
    replace s_z := s_z.up hb
    replace d_z := d_z.up hb
    replace s_j := s_j.up hb
    replace B := Below.thn B hb
    clear hb
    replace s_x := s_x.alloc (.cells #[.int .i64 0, .slice ao_m 0 ca_m] 24)
    replace d_x := d_x.alloc (.cells #[.int .i64 0, .slice ao_m 0 ca_m] 24)
    replace s_y := s_y.alloc (.cells #[.int .i64 0, .slice ao_m 0 ca_m] 24)
    replace d_y := d_y.alloc (.cells #[.int .i64 0, .slice ao_m 0 ca_m] 24)
    replace s_z := s_z.alloc (.cells #[.int .i64 0, .slice ao_m 0 ca_m] 24)
    replace d_z := d_z.alloc (.cells #[.int .i64 0, .slice ao_m 0 ca_m] 24)
    replace B := Below.thn B (below_alloc _ (.cells #[.int .i64 0, .slice ao_m 0 ca_m] 24))
    replace s_j := s_j.alloc (.cells #[.int .i64 0, .slice ao_m 0 ca_m] 24)
    have s_m := St.new w3 (.int .i64 0) (.slice ao_m 0 ca_m)
    obtain ⟨c_j0, c_j1, _, _⟩ := s_j.cells
    obtain ⟨c_m0, c_m1, _, _⟩ := s_m.cells
    go_wp2
    go_ret
    exact ⟨rfl, B⟩
  | true =>
    obtain ⟨k_xs, k_ys, hn⟩ := okP_parts hp
    subst hn
    clear hp
    have hl := okR_len k_xs k_ys
    obtain ⟨J, hJ⟩ : ∃ J, List.zipWith joinW xs ys = J := ⟨_, rfl⟩
    obtain ⟨M, hM⟩ : ∃ M, List.zipWith meetW xs ys = M := ⟨_, rfl⟩
    have k_J : okR n1 J = true := by rw [← hJ]; exact okR_join hx hy k_xs k_ys
    have k_M : okR n1 M = true := by rw [← hM]; exact okR_meet hx hy k_xs k_ys
    have f1 : List.zipWith joinW ys xs = J := by rw [← hJ]; exact (joinL_comm hx hy hl).symm
    have f2 : List.zipWith meetW ys xs = M := by rw [← hM]; exact (meetL_comm hx hy hl).symm
    have f3 : belowL xs J = true := by rw [← hJ]; exact below_join_l hx hy hl
    have f4 : belowL ys J = true := by rw [← hJ]; exact below_join_r hx hy hl
    have f5 : belowL M xs = true := by rw [← hM]; exact meet_below_l hx hy hl
    have f6 : belowL M ys = true := by rw [← hM]; exact meet_below_r hx hy hl
    have f7 : List.zipWith meetW xs J = xs := by rw [← hJ]; exact meet_joinL hx hy hl
    have f8 : List.zipWith joinW xs M = xs := by rw [← hM]; exact join_meetL hx hy hl
    have f9 : belowL J zs = (belowL xs zs && belowL ys zs) := by rw [← hJ]; exact join_belowL hx hy hz hl
    have f10 : xs.length = zs.length → belowL zs M = (belowL zs xs && belowL zs ys) := fun h => by rw [← hM]; exact below_meetL hx hy hz hl h
    have H_hJ : Hid (List.zipWith joinW xs ys = J) := hJ
    have H_hM : Hid (List.zipWith meetW xs ys = M) := hM
    have H_f1 : Hid (List.zipWith joinW ys xs = J) := f1
    have H_f2 : Hid (List.zipWith meetW ys xs = M) := f2
    have H_f3 : Hid (belowL xs J = true) := f3
    have H_f4 : Hid (belowL ys J = true) := f4
    have H_f5 : Hid (belowL M xs = true) := f5
    have H_f6 : Hid (belowL M ys = true) := f6
    have H_f7 : Hid (List.zipWith meetW xs J = xs) := f7
    have H_f8 : Hid (List.zipWith joinW xs M = xs) := f8
    have H_f9 : Hid (belowL J zs = (belowL xs zs && belowL ys zs)) := f9
    have H_f10 : Hid ((xs.length = zs.length → belowL zs M = (belowL zs xs && belowL zs ys))) := f10
    have H_hl : Hid (xs.length = ys.length) := hl
    clear hJ hM f1 f2 f3 f4 f5 f6 f7 f8 f9 f10 hl
    go_enter Try.func6, Try.ntmps6
    go_wp2_with fail
    refine (awake_any _).mono ?_
    rintro e w1 ⟨rfl, hb⟩
    replace s_x := s_x.up hb
    replace d_x := d_x.up hb
    replace s_y := s_y.up hb
    replace d_y := d_y.up hb
    replace s_z := s_z.up hb
    replace d_z := d_z.up hb
    replace B := Below.thn B hb
    clear hb
    obtain ⟨c_x0, c_x1, _, _⟩ := s_x.cells
    obtain ⟨c_y0, c_y1, _, _⟩ := s_y.cells
    go_wp2_with fail
    refine (join_ok n1 ao bo ca cb xs ys J _ k_xs k_ys H_hJ d_x d_y (okR_short k_xs) (okR_short k_ys)).mono ?_
    rintro e w2 ⟨ao_j, ca_j, rfl, d_j, hb⟩
    clear c_x0 c_x1 c_y0 c_y1
    replace s_x := s_x.up hb
    replace d_x := d_x.up hb
    replace s_y := s_y.up hb
    replace d_y := d_y.up hb
    replace s_z := s_z.up hb
    replace d_z := d_z.up hb
    replace B := Below.thn B hb
    clear hb
    replace s_x := s_x.alloc (.cells #[.int .i64 n1, .slice ao_j J.length ca_j] 24)
    replace d_x := d_x.alloc (.cells #[.int .i64 n1, .slice ao_j J.length ca_j] 24)
    replace s_y := s_y.alloc (.cells #[.int .i64 n1, .slice ao_j J.length ca_j] 24)
    replace d_y := d_y.alloc (.cells #[.int .i64 n1, .slice ao_j J.length ca_j] 24)
    replace s_z := s_z.alloc (.cells #[.int .i64 n1, .slice ao_j J.length ca_j] 24)
    replace d_z := d_z.alloc (.cells #[.int .i64 n1, .slice ao_j J.length ca_j] 24)
    replace d_j := d_j.alloc (.cells #[.int .i64 n1, .slice ao_j J.length ca_j] 24)
    have s_j := St.new w2 (.int .i64 n1) (.slice ao_j J.length ca_j)
    replace B := Below.thn B (below_alloc _ (.cells #[.int .i64 n1, .slice ao_j J.length ca_j] 24))
    obtain ⟨c_x0, c_x1, _, _⟩ := s_x.cells
    obtain ⟨c_y0, c_y1, _, _⟩ := s_y.cells
    go_wp2_with fail
    refine (meet_ok n1 ao bo ca cb xs ys M _ k_xs k_ys H_hM d_x d_y (okR_short k_xs) (okR_short k_ys)).mono ?_
    rintro e w3 ⟨ao_m, ca_m, rfl, d_m, hb⟩
    clear c_x0 c_x1 c_y0 c_y1
    replace s_x := s_x.up hb
    replace d_x := d_x.up hb
    replace s_y := s_y.up hb
    replace d_y := d_y.up hb
    replace s_z := s_z.up hb
    replace d_z := d_z.up hb
    replace s_j := s_j.up hb
    replace d_j := d_j.up hb
    replace B := Below.thn B hb
    clear hb
    replace s_x := s_x.alloc (.cells #[.int .i64 n1, .slice ao_m M.length ca_m] 24)
    replace d_x := d_x.alloc (.cells #[.int .i64 n1, .slice ao_m M.length ca_m] 24)
    replace s_y := s_y.alloc (.cells #[.int .i64 n1, .slice ao_m M.length ca_m] 24)
    replace d_y := d_y.alloc (.cells #[.int .i64 n1, .slice ao_m M.length ca_m] 24)
    replace s_z := s_z.alloc (.cells #[.int .i64 n1, .slice ao_m M.length ca_m] 24)
    replace d_z := d_z.alloc (.cells #[.int .i64 n1, .slice ao_m M.length ca_m] 24)
    replace s_j := s_j.alloc (.cells #[.int .i64 n1, .slice ao_m M.length ca_m] 24)
    replace d_j := d_j.alloc (.cells #[.int .i64 n1, .slice ao_m M.length ca_m] 24)
    replace d_m := d_m.alloc (.cells #[.int .i64 n1, .slice ao_m M.length ca_m] 24)
    have s_m := St.new w3 (.int .i64 n1) (.slice ao_m M.length ca_m)
    replace B := Below.thn B (below_alloc _ (.cells #[.int .i64 n1, .slice ao_m M.length ca_m] 24))
    obtain ⟨c_y0, c_y1, _, _⟩ := s_y.cells
    obtain ⟨c_x0, c_x1, _, _⟩ := s_x.cells
    go_wp2_with fail
    refine (join_ok n1 bo ao cb ca ys xs J _ k_ys k_xs H_f1 d_y d_x (okR_short k_ys) (okR_short k_xs)).mono ?_
    rintro e w4 ⟨ao_k, ca_k, rfl, d_k, hb⟩
    clear c_y0 c_y1 c_x0 c_x1
    replace s_x := s_x.up hb
    replace d_x := d_x.up hb
    replace s_y := s_y.up hb
    replace d_y := d_y.up hb
    replace s_z := s_z.up hb
    replace d_z := d_z.up hb
    replace s_j := s_j.up hb
    replace d_j := d_j.up hb
    replace s_m := s_m.up hb
    replace d_m := d_m.up hb
    replace B := Below.thn B hb
    clear hb
    replace s_x := s_x.alloc (.cells #[.int .i64 n1, .slice ao_k J.length ca_k] 24)
    replace d_x := d_x.alloc (.cells #[.int .i64 n1, .slice ao_k J.length ca_k] 24)
    replace s_y := s_y.alloc (.cells #[.int .i64 n1, .slice ao_k J.length ca_k] 24)
    replace d_y := d_y.alloc (.cells #[.int .i64 n1, .slice ao_k J.length ca_k] 24)
    replace s_z := s_z.alloc (.cells #[.int .i64 n1, .slice ao_k J.length ca_k] 24)
    replace d_z := d_z.alloc (.cells #[.int .i64 n1, .slice ao_k J.length ca_k] 24)
    replace s_j := s_j.alloc (.cells #[.int .i64 n1, .slice ao_k J.length ca_k] 24)
    replace d_j := d_j.alloc (.cells #[.int .i64 n1, .slice ao_k J.length ca_k] 24)
    replace s_m := s_m.alloc (.cells #[.int .i64 n1, .slice ao_k J.length ca_k] 24)
    replace d_m := d_m.alloc (.cells #[.int .i64 n1, .slice ao_k J.length ca_k] 24)
    replace d_k := d_k.alloc (.cells #[.int .i64 n1, .slice ao_k J.length ca_k] 24)
    have s_k := St.new w4 (.int .i64 n1) (.slice ao_k J.length ca_k)
    replace B := Below.thn B (below_alloc _ (.cells #[.int .i64 n1, .slice ao_k J.length ca_k] 24))
    obtain ⟨c_y0, c_y1, _, _⟩ := s_y.cells
    obtain ⟨c_x0, c_x1, _, _⟩ := s_x.cells
    go_wp2_with fail
    refine (meet_ok n1 bo ao cb ca ys xs M _ k_ys k_xs H_f2 d_y d_x (okR_short k_ys) (okR_short k_xs)).mono ?_
    rintro e w5 ⟨ao_n, ca_n, rfl, d_n, hb⟩
    clear c_y0 c_y1 c_x0 c_x1
    replace s_x := s_x.up hb
    replace d_x := d_x.up hb
    replace s_y := s_y.up hb
    replace d_y := d_y.up hb
    replace s_z := s_z.up hb
    replace d_z := d_z.up hb
    replace s_j := s_j.up hb
    replace d_j := d_j.up hb
    replace s_m := s_m.up hb
    replace d_m := d_m.up hb
    replace s_k := s_k.up hb
    replace d_k := d_k.up hb
    replace B := Below.thn B hb
    clear hb
    replace s_x := s_x.alloc (.cells #[.int .i64 n1, .slice ao_n M.length ca_n] 24)
    replace d_x := d_x.alloc (.cells #[.int .i64 n1, .slice ao_n M.length ca_n] 24)
    replace s_y := s_y.alloc (.cells #[.int .i64 n1, .slice ao_n M.length ca_n] 24)
    replace d_y := d_y.alloc (.cells #[.int .i64 n1, .slice ao_n M.length ca_n] 24)
    replace s_z := s_z.alloc (.cells #[.int .i64 n1, .slice ao_n M.length ca_n] 24)
    replace d_z := d_z.alloc (.cells #[.int .i64 n1, .slice ao_n M.length ca_n] 24)
    replace s_j := s_j.alloc (.cells #[.int .i64 n1, .slice ao_n M.length ca_n] 24)
    replace d_j := d_j.alloc (.cells #[.int .i64 n1, .slice ao_n M.length ca_n] 24)
    replace s_m := s_m.alloc (.cells #[.int .i64 n1, .slice ao_n M.length ca_n] 24)
    replace d_m := d_m.alloc (.cells #[.int .i64 n1, .slice ao_n M.length ca_n] 24)
    replace s_k := s_k.alloc (.cells #[.int .i64 n1, .slice ao_n M.length ca_n] 24)
    replace d_k := d_k.alloc (.cells #[.int .i64 n1, .slice ao_n M.length ca_n] 24)
    replace d_n := d_n.alloc (.cells #[.int .i64 n1, .slice ao_n M.length ca_n] 24)
    have s_n := St.new w5 (.int .i64 n1) (.slice ao_n M.length ca_n)
    replace B := Below.thn B (below_alloc _ (.cells #[.int .i64 n1, .slice ao_n M.length ca_n] 24))
    obtain ⟨c_x0, c_x1, _, _⟩ := s_x.cells
    obtain ⟨c_j0, c_j1, _, _⟩ := s_j.cells
    go_wp2_with fail
    refine (below_ok n1 ao ao_j ca ca_j xs J _ true k_xs k_J H_f3 d_x d_j (okR_short k_xs) (okR_short k_J)).mono ?_
    rintro e w6 ⟨rfl, hb⟩
    clear c_x0 c_x1 c_j0 c_j1
    replace s_x := s_x.up hb
    replace d_x := d_x.up hb
    replace s_y := s_y.up hb
    replace d_y := d_y.up hb
    replace s_z := s_z.up hb
    replace d_z := d_z.up hb
    replace s_j := s_j.up hb
    replace d_j := d_j.up hb
    replace s_m := s_m.up hb
    replace d_m := d_m.up hb
    replace s_k := s_k.up hb
    replace d_k := d_k.up hb
    replace s_n := s_n.up hb
    replace d_n := d_n.up hb
    replace B := Below.thn B hb
    clear hb
    obtain ⟨c_y0, c_y1, _, _⟩ := s_y.cells
    obtain ⟨c_j0, c_j1, _, _⟩ := s_j.cells
    go_wp2_with fail
    refine (below_ok n1 bo ao_j cb ca_j ys J _ true k_ys k_J H_f4 d_y d_j (okR_short k_ys) (okR_short k_J)).mono ?_
    rintro e w7 ⟨rfl, hb⟩
    clear c_y0 c_y1 c_j0 c_j1
    replace s_x := s_x.up hb
    replace d_x := d_x.up hb
    replace s_y := s_y.up hb
    replace d_y := d_y.up hb
    replace s_z := s_z.up hb
    replace d_z := d_z.up hb
    replace s_j := s_j.up hb
    replace d_j := d_j.up hb
    replace s_m := s_m.up hb
    replace d_m := d_m.up hb
    replace s_k := s_k.up hb
    replace d_k := d_k.up hb
    replace s_n := s_n.up hb
    replace d_n := d_n.up hb
    replace B := Below.thn B hb
    clear hb
    obtain ⟨c_m0, c_m1, _, _⟩ := s_m.cells
    obtain ⟨c_x0, c_x1, _, _⟩ := s_x.cells
    go_wp2_with fail
    refine (below_ok n1 ao_m ao ca_m ca M xs _ true k_M k_xs H_f5 d_m d_x (okR_short k_M) (okR_short k_xs)).mono ?_
    rintro e w8 ⟨rfl, hb⟩
    clear c_m0 c_m1 c_x0 c_x1
    replace s_x := s_x.up hb
    replace d_x := d_x.up hb
    replace s_y := s_y.up hb
    replace d_y := d_y.up hb
    replace s_z := s_z.up hb
    replace d_z := d_z.up hb
    replace s_j := s_j.up hb
    replace d_j := d_j.up hb
    replace s_m := s_m.up hb
    replace d_m := d_m.up hb
    replace s_k := s_k.up hb
    replace d_k := d_k.up hb
    replace s_n := s_n.up hb
    replace d_n := d_n.up hb
    replace B := Below.thn B hb
    clear hb
    obtain ⟨c_m0, c_m1, _, _⟩ := s_m.cells
    obtain ⟨c_y0, c_y1, _, _⟩ := s_y.cells
    go_wp2_with fail
    refine (below_ok n1 ao_m bo ca_m cb M ys _ true k_M k_ys H_f6 d_m d_y (okR_short k_M) (okR_short k_ys)).mono ?_
    rintro e w9 ⟨rfl, hb⟩
    clear c_m0 c_m1 c_y0 c_y1
    replace s_x := s_x.up hb
    replace d_x := d_x.up hb
    replace s_y := s_y.up hb
    replace d_y := d_y.up hb
    replace s_z := s_z.up hb
    replace d_z := d_z.up hb
    replace s_j := s_j.up hb
    replace d_j := d_j.up hb
    replace s_m := s_m.up hb
    replace d_m := d_m.up hb
    replace s_k := s_k.up hb
    replace d_k := d_k.up hb
    replace s_n := s_n.up hb
    replace d_n := d_n.up hb
    replace B := Below.thn B hb
    clear hb
    obtain ⟨c_x0, c_x1, _, _⟩ := s_x.cells
    obtain ⟨c_j0, c_j1, _, _⟩ := s_j.cells
    go_wp2_with fail
    refine (meet_ok n1 ao ao_j ca ca_j xs J xs _ k_xs k_J H_f7 d_x d_j (okR_short k_xs) (okR_short k_J)).mono ?_
    rintro e w10 ⟨ao_g, ca_g, rfl, d_g, hb⟩
    clear c_x0 c_x1 c_j0 c_j1
    replace s_x := s_x.up hb
    replace d_x := d_x.up hb
    replace s_y := s_y.up hb
    replace d_y := d_y.up hb
    replace s_z := s_z.up hb
    replace d_z := d_z.up hb
    replace s_j := s_j.up hb
    replace d_j := d_j.up hb
    replace s_m := s_m.up hb
    replace d_m := d_m.up hb
    replace s_k := s_k.up hb
    replace d_k := d_k.up hb
    replace s_n := s_n.up hb
    replace d_n := d_n.up hb
    replace B := Below.thn B hb
    clear hb
    replace s_x := s_x.alloc (.cells #[.int .i64 n1, .slice ao_g xs.length ca_g] 24)
    replace d_x := d_x.alloc (.cells #[.int .i64 n1, .slice ao_g xs.length ca_g] 24)
    replace s_y := s_y.alloc (.cells #[.int .i64 n1, .slice ao_g xs.length ca_g] 24)
    replace d_y := d_y.alloc (.cells #[.int .i64 n1, .slice ao_g xs.length ca_g] 24)
    replace s_z := s_z.alloc (.cells #[.int .i64 n1, .slice ao_g xs.length ca_g] 24)
    replace d_z := d_z.alloc (.cells #[.int .i64 n1, .slice ao_g xs.length ca_g] 24)
    replace s_j := s_j.alloc (.cells #[.int .i64 n1, .slice ao_g xs.length ca_g] 24)
    replace d_j := d_j.alloc (.cells #[.int .i64 n1, .slice ao_g xs.length ca_g] 24)
    replace s_m := s_m.alloc (.cells #[.int .i64 n1, .slice ao_g xs.length ca_g] 24)
    replace d_m := d_m.alloc (.cells #[.int .i64 n1, .slice ao_g xs.length ca_g] 24)
    replace s_k := s_k.alloc (.cells #[.int .i64 n1, .slice ao_g xs.length ca_g] 24)
    replace d_k := d_k.alloc (.cells #[.int .i64 n1, .slice ao_g xs.length ca_g] 24)
    replace s_n := s_n.alloc (.cells #[.int .i64 n1, .slice ao_g xs.length ca_g] 24)
    replace d_n := d_n.alloc (.cells #[.int .i64 n1, .slice ao_g xs.length ca_g] 24)
    replace d_g := d_g.alloc (.cells #[.int .i64 n1, .slice ao_g xs.length ca_g] 24)
    have s_g := St.new w10 (.int .i64 n1) (.slice ao_g xs.length ca_g)
    replace B := Below.thn B (below_alloc _ (.cells #[.int .i64 n1, .slice ao_g xs.length ca_g] 24))
    obtain ⟨c_x0, c_x1, _, _⟩ := s_x.cells
    obtain ⟨c_m0, c_m1, _, _⟩ := s_m.cells
    go_wp2_with fail
    refine (join_ok n1 ao ao_m ca ca_m xs M xs _ k_xs k_M H_f8 d_x d_m (okR_short k_xs) (okR_short k_M)).mono ?_
    rintro e w11 ⟨ao_h, ca_h, rfl, d_h, hb⟩
    clear c_x0 c_x1 c_m0 c_m1
    replace s_x := s_x.up hb
    replace d_x := d_x.up hb
    replace s_y := s_y.up hb
    replace d_y := d_y.up hb
    replace s_z := s_z.up hb
    replace d_z := d_z.up hb
    replace s_j := s_j.up hb
    replace d_j := d_j.up hb
    replace s_m := s_m.up hb
    replace d_m := d_m.up hb
    replace s_k := s_k.up hb
    replace d_k := d_k.up hb
    replace s_n := s_n.up hb
    replace d_n := d_n.up hb
    replace s_g := s_g.up hb
    replace d_g := d_g.up hb
    replace B := Below.thn B hb
    clear hb
    replace s_x := s_x.alloc (.cells #[.int .i64 n1, .slice ao_h xs.length ca_h] 24)
    replace d_x := d_x.alloc (.cells #[.int .i64 n1, .slice ao_h xs.length ca_h] 24)
    replace s_y := s_y.alloc (.cells #[.int .i64 n1, .slice ao_h xs.length ca_h] 24)
    replace d_y := d_y.alloc (.cells #[.int .i64 n1, .slice ao_h xs.length ca_h] 24)
    replace s_z := s_z.alloc (.cells #[.int .i64 n1, .slice ao_h xs.length ca_h] 24)
    replace d_z := d_z.alloc (.cells #[.int .i64 n1, .slice ao_h xs.length ca_h] 24)
    replace s_j := s_j.alloc (.cells #[.int .i64 n1, .slice ao_h xs.length ca_h] 24)
    replace d_j := d_j.alloc (.cells #[.int .i64 n1, .slice ao_h xs.length ca_h] 24)
    replace s_m := s_m.alloc (.cells #[.int .i64 n1, .slice ao_h xs.length ca_h] 24)
    replace d_m := d_m.alloc (.cells #[.int .i64 n1, .slice ao_h xs.length ca_h] 24)
    replace s_k := s_k.alloc (.cells #[.int .i64 n1, .slice ao_h xs.length ca_h] 24)
    replace d_k := d_k.alloc (.cells #[.int .i64 n1, .slice ao_h xs.length ca_h] 24)
    replace s_n := s_n.alloc (.cells #[.int .i64 n1, .slice ao_h xs.length ca_h] 24)
    replace d_n := d_n.alloc (.cells #[.int .i64 n1, .slice ao_h xs.length ca_h] 24)
    replace s_g := s_g.alloc (.cells #[.int .i64 n1, .slice ao_h xs.length ca_h] 24)
    replace d_g := d_g.alloc (.cells #[.int .i64 n1, .slice ao_h xs.length ca_h] 24)
    replace d_h := d_h.alloc (.cells #[.int .i64 n1, .slice ao_h xs.length ca_h] 24)
    have s_h := St.new w11 (.int .i64 n1) (.slice ao_h xs.length ca_h)
    replace B := Below.thn B (below_alloc _ (.cells #[.int .i64 n1, .slice ao_h xs.length ca_h] 24))
    obtain ⟨c_j0, c_j1, _, _⟩ := s_j.cells
    obtain ⟨c_k0, c_k1, _, _⟩ := s_k.cells
    go_wp2_with fail
    refine (same_ok n1 ao_j ao_k ca_j ca_k J J _ true (beq_self_eq_true _) d_j d_k (okR_short k_J) (okR_short k_J)).mono ?_
    rintro e w12 ⟨rfl, hb⟩
    clear c_j0 c_j1 c_k0 c_k1
    replace s_x := s_x.up hb
    replace d_x := d_x.up hb
    replace s_y := s_y.up hb
    replace d_y := d_y.up hb
    replace s_z := s_z.up hb
    replace d_z := d_z.up hb
    replace s_j := s_j.up hb
    replace d_j := d_j.up hb
    replace s_m := s_m.up hb
    replace d_m := d_m.up hb
    replace s_k := s_k.up hb
    replace d_k := d_k.up hb
    replace s_n := s_n.up hb
    replace d_n := d_n.up hb
    replace s_g := s_g.up hb
    replace d_g := d_g.up hb
    replace s_h := s_h.up hb
    replace d_h := d_h.up hb
    replace B := Below.thn B hb
    clear hb
    obtain ⟨c_m0, c_m1, _, _⟩ := s_m.cells
    obtain ⟨c_n0, c_n1, _, _⟩ := s_n.cells
    go_wp2_with fail
    refine (same_ok n1 ao_m ao_n ca_m ca_n M M _ true (beq_self_eq_true _) d_m d_n (okR_short k_M) (okR_short k_M)).mono ?_
    rintro e w13 ⟨rfl, hb⟩
    clear c_m0 c_m1 c_n0 c_n1
    replace s_x := s_x.up hb
    replace d_x := d_x.up hb
    replace s_y := s_y.up hb
    replace d_y := d_y.up hb
    replace s_z := s_z.up hb
    replace d_z := d_z.up hb
    replace s_j := s_j.up hb
    replace d_j := d_j.up hb
    replace s_m := s_m.up hb
    replace d_m := d_m.up hb
    replace s_k := s_k.up hb
    replace d_k := d_k.up hb
    replace s_n := s_n.up hb
    replace d_n := d_n.up hb
    replace s_g := s_g.up hb
    replace d_g := d_g.up hb
    replace s_h := s_h.up hb
    replace d_h := d_h.up hb
    replace B := Below.thn B hb
    clear hb
    obtain ⟨c_g0, c_g1, _, _⟩ := s_g.cells
    obtain ⟨c_x0, c_x1, _, _⟩ := s_x.cells
    go_wp2_with fail
    refine (same_ok n1 ao_g ao ca_g ca xs xs _ true (beq_self_eq_true _) d_g d_x (okR_short k_xs) (okR_short k_xs)).mono ?_
    rintro e w14 ⟨rfl, hb⟩
    clear c_g0 c_g1 c_x0 c_x1
    replace s_x := s_x.up hb
    replace d_x := d_x.up hb
    replace s_y := s_y.up hb
    replace d_y := d_y.up hb
    replace s_z := s_z.up hb
    replace d_z := d_z.up hb
    replace s_j := s_j.up hb
    replace d_j := d_j.up hb
    replace s_m := s_m.up hb
    replace d_m := d_m.up hb
    replace s_k := s_k.up hb
    replace d_k := d_k.up hb
    replace s_n := s_n.up hb
    replace d_n := d_n.up hb
    replace s_g := s_g.up hb
    replace d_g := d_g.up hb
    replace s_h := s_h.up hb
    replace d_h := d_h.up hb
    replace B := Below.thn B hb
    clear hb
    obtain ⟨c_h0, c_h1, _, _⟩ := s_h.cells
    obtain ⟨c_x0, c_x1, _, _⟩ := s_x.cells
    go_wp2_with fail
    refine (same_ok n1 ao_h ao ca_h ca xs xs _ true (beq_self_eq_true _) d_h d_x (okR_short k_xs) (okR_short k_xs)).mono ?_
    rintro e w15 ⟨rfl, hb⟩
    clear c_h0 c_h1 c_x0 c_x1
    replace s_x := s_x.up hb
    replace d_x := d_x.up hb
    replace s_y := s_y.up hb
    replace d_y := d_y.up hb
    replace s_z := s_z.up hb
    replace d_z := d_z.up hb
    replace s_j := s_j.up hb
    replace d_j := d_j.up hb
    replace s_m := s_m.up hb
    replace d_m := d_m.up hb
    replace s_k := s_k.up hb
    replace d_k := d_k.up hb
    replace s_n := s_n.up hb
    replace d_n := d_n.up hb
    replace s_g := s_g.up hb
    replace d_g := d_g.up hb
    replace s_h := s_h.up hb
    replace d_h := d_h.up hb
    replace B := Below.thn B hb
    clear hb
    clear s_k d_k s_n d_n s_g d_g s_h d_h
    cases hq : okP n1 n3 xs zs with
    | false =>
      obtain ⟨c_x0, c_x1, _, _⟩ := s_x.cells
      obtain ⟨c_z0, c_z1, _, _⟩ := s_z.cells
      go_wp2_with fail
      refine (below_no n1 n3 ao co ca cc xs zs _ hq d_x d_z (okR_short k_xs) l3).mono ?_
      rintro e w16 ⟨rfl, hb⟩
      clear c_x0 c_x1 c_z0 c_z1
      replace s_x := s_x.up hb
      replace d_x := d_x.up hb
      replace s_y := s_y.up hb
      replace d_y := d_y.up hb
      replace s_z := s_z.up hb
      replace d_z := d_z.up hb
      replace s_j := s_j.up hb
      replace d_j := d_j.up hb
      replace s_m := s_m.up hb
      replace d_m := d_m.up hb
      replace B := Below.thn B hb
      clear hb
      obtain ⟨c_y0, c_y1, _, _⟩ := s_y.cells
      obtain ⟨c_z0, c_z1, _, _⟩ := s_z.cells
      go_wp2_with fail
      refine (below_no n1 n3 bo co cb cc ys zs _ (okP_not k_xs k_ys hq) d_y d_z (okR_short k_ys) l3).mono ?_
      rintro e w17 ⟨rfl, hb⟩
      clear c_y0 c_y1 c_z0 c_z1
      replace s_x := s_x.up hb
      replace d_x := d_x.up hb
      replace s_y := s_y.up hb
      replace d_y := d_y.up hb
      replace s_z := s_z.up hb
      replace d_z := d_z.up hb
      replace s_j := s_j.up hb
      replace d_j := d_j.up hb
      replace s_m := s_m.up hb
      replace d_m := d_m.up hb
      replace B := Below.thn B hb
      clear hb
      obtain ⟨c_j0, c_j1, _, _⟩ := s_j.cells
      obtain ⟨c_z0, c_z1, _, _⟩ := s_z.cells
      go_wp2_with fail
      refine (below_no n1 n3 ao_j co ca_j cc J zs _ (okP_not k_xs k_J hq) d_j d_z (okR_short k_J) l3).mono ?_
      rintro e w18 ⟨rfl, hb⟩
      clear c_j0 c_j1 c_z0 c_z1
      replace s_x := s_x.up hb
      replace d_x := d_x.up hb
      replace s_y := s_y.up hb
      replace d_y := d_y.up hb
      replace s_z := s_z.up hb
      replace d_z := d_z.up hb
      replace s_j := s_j.up hb
      replace d_j := d_j.up hb
      replace s_m := s_m.up hb
      replace d_m := d_m.up hb
      replace B := Below.thn B hb
      clear hb
      obtain ⟨c_z0, c_z1, _, _⟩ := s_z.cells
      obtain ⟨c_x0, c_x1, _, _⟩ := s_x.cells
      go_wp2_with fail
      refine (below_no n3 n1 co ao cc ca zs xs _ (okP_swap hq) d_z d_x l3 (okR_short k_xs)).mono ?_
      rintro e w19 ⟨rfl, hb⟩
      clear c_z0 c_z1 c_x0 c_x1
      replace s_x := s_x.up hb
      replace d_x := d_x.up hb
      replace s_y := s_y.up hb
      replace d_y := d_y.up hb
      replace s_z := s_z.up hb
      replace d_z := d_z.up hb
      replace s_j := s_j.up hb
      replace d_j := d_j.up hb
      replace s_m := s_m.up hb
      replace d_m := d_m.up hb
      replace B := Below.thn B hb
      clear hb
      obtain ⟨c_z0, c_z1, _, _⟩ := s_z.cells
      obtain ⟨c_y0, c_y1, _, _⟩ := s_y.cells
      go_wp2_with fail
      refine (below_no n3 n1 co bo cc cb zs ys _ (okP_swap (okP_not k_xs k_ys hq)) d_z d_y l3 (okR_short k_ys)).mono ?_
      rintro e w20 ⟨rfl, hb⟩
      clear c_z0 c_z1 c_y0 c_y1
      replace s_x := s_x.up hb
      replace d_x := d_x.up hb
      replace s_y := s_y.up hb
      replace d_y := d_y.up hb
      replace s_z := s_z.up hb
      replace d_z := d_z.up hb
      replace s_j := s_j.up hb
      replace d_j := d_j.up hb
      replace s_m := s_m.up hb
      replace d_m := d_m.up hb
      replace B := Below.thn B hb
      clear hb
      obtain ⟨c_z0, c_z1, _, _⟩ := s_z.cells
      obtain ⟨c_m0, c_m1, _, _⟩ := s_m.cells
      go_wp2_with fail
      refine (below_no n3 n1 co ao_m cc ca_m zs M _ (okP_swap (okP_not k_xs k_M hq)) d_z d_m l3 (okR_short k_M)).mono ?_
      rintro e w21 ⟨rfl, hb⟩
      clear c_z0 c_z1 c_m0 c_m1
      replace s_x := s_x.up hb
      replace d_x := d_x.up hb
      replace s_y := s_y.up hb
      replace d_y := d_y.up hb
      replace s_z := s_z.up hb
      replace d_z := d_z.up hb
      replace s_j := s_j.up hb
      replace d_j := d_j.up hb
      replace s_m := s_m.up hb
      replace d_m := d_m.up hb
      replace B := Below.thn B hb
      clear hb
      go_wp2
      go_ret
      exact ⟨rfl, B⟩
    | true =>
      obtain ⟨_, k_zs, hn⟩ := okP_parts hq
      subst hn
      clear hq
      have H_lz : Hid (xs.length = zs.length) := okR_len k_xs k_zs
      obtain ⟨c_x0, c_x1, _, _⟩ := s_x.cells
      obtain ⟨c_z0, c_z1, _, _⟩ := s_z.cells
      go_wp2_with fail
      refine (below_ok n1 ao co ca cc xs zs _ (belowL xs zs) k_xs k_zs rfl d_x d_z (okR_short k_xs) (okR_short k_zs)).mono ?_
      rintro e w16 ⟨rfl, hb⟩
      clear c_x0 c_x1 c_z0 c_z1
      replace s_x := s_x.up hb
      replace d_x := d_x.up hb
      replace s_y := s_y.up hb
      replace d_y := d_y.up hb
      replace s_z := s_z.up hb
      replace d_z := d_z.up hb
      replace s_j := s_j.up hb
      replace d_j := d_j.up hb
      replace s_m := s_m.up hb
      replace d_m := d_m.up hb
      replace B := Below.thn B hb
      clear hb
      obtain ⟨c_y0, c_y1, _, _⟩ := s_y.cells
      obtain ⟨c_z0, c_z1, _, _⟩ := s_z.cells
      go_wp2_with fail
      refine (below_ok n1 bo co cb cc ys zs _ (belowL ys zs) k_ys k_zs rfl d_y d_z (okR_short k_ys) (okR_short k_zs)).mono ?_
      rintro e w17 ⟨rfl, hb⟩
      clear c_y0 c_y1 c_z0 c_z1
      replace s_x := s_x.up hb
      replace d_x := d_x.up hb
      replace s_y := s_y.up hb
      replace d_y := d_y.up hb
      replace s_z := s_z.up hb
      replace d_z := d_z.up hb
      replace s_j := s_j.up hb
      replace d_j := d_j.up hb
      replace s_m := s_m.up hb
      replace d_m := d_m.up hb
      replace B := Below.thn B hb
      clear hb
      obtain ⟨c_j0, c_j1, _, _⟩ := s_j.cells
      obtain ⟨c_z0, c_z1, _, _⟩ := s_z.cells
      go_wp2_with fail
      refine (below_ok n1 ao_j co ca_j cc J zs _ (belowL xs zs && belowL ys zs) k_J k_zs H_f9 d_j d_z (okR_short k_J) (okR_short k_zs)).mono ?_
      rintro e w18 ⟨rfl, hb⟩
      clear c_j0 c_j1 c_z0 c_z1
      replace s_x := s_x.up hb
      replace d_x := d_x.up hb
      replace s_y := s_y.up hb
      replace d_y := d_y.up hb
      replace s_z := s_z.up hb
      replace d_z := d_z.up hb
      replace s_j := s_j.up hb
      replace d_j := d_j.up hb
      replace s_m := s_m.up hb
      replace d_m := d_m.up hb
      replace B := Below.thn B hb
      clear hb
      obtain ⟨c_z0, c_z1, _, _⟩ := s_z.cells
      obtain ⟨c_x0, c_x1, _, _⟩ := s_x.cells
      go_wp2_with fail
      refine (below_ok n1 co ao cc ca zs xs _ (belowL zs xs) k_zs k_xs rfl d_z d_x (okR_short k_zs) (okR_short k_xs)).mono ?_
      rintro e w19 ⟨rfl, hb⟩
      clear c_z0 c_z1 c_x0 c_x1
      replace s_x := s_x.up hb
      replace d_x := d_x.up hb
      replace s_y := s_y.up hb
      replace d_y := d_y.up hb
      replace s_z := s_z.up hb
      replace d_z := d_z.up hb
      replace s_j := s_j.up hb
      replace d_j := d_j.up hb
      replace s_m := s_m.up hb
      replace d_m := d_m.up hb
      replace B := Below.thn B hb
      clear hb
      obtain ⟨c_z0, c_z1, _, _⟩ := s_z.cells
      obtain ⟨c_y0, c_y1, _, _⟩ := s_y.cells
      go_wp2_with fail
      refine (below_ok n1 co bo cc cb zs ys _ (belowL zs ys) k_zs k_ys rfl d_z d_y (okR_short k_zs) (okR_short k_ys)).mono ?_
      rintro e w20 ⟨rfl, hb⟩
      clear c_z0 c_z1 c_y0 c_y1
      replace s_x := s_x.up hb
      replace d_x := d_x.up hb
      replace s_y := s_y.up hb
      replace d_y := d_y.up hb
      replace s_z := s_z.up hb
      replace d_z := d_z.up hb
      replace s_j := s_j.up hb
      replace d_j := d_j.up hb
      replace s_m := s_m.up hb
      replace d_m := d_m.up hb
      replace B := Below.thn B hb
      clear hb
      obtain ⟨c_z0, c_z1, _, _⟩ := s_z.cells
      obtain ⟨c_m0, c_m1, _, _⟩ := s_m.cells
      go_wp2_with fail
      refine (below_ok n1 co ao_m cc ca_m zs M _ (belowL zs xs && belowL zs ys) k_zs k_M ((show _ → _ from H_f10) H_lz) d_z d_m (okR_short k_zs) (okR_short k_M)).mono ?_
      rintro e w21 ⟨rfl, hb⟩
      clear c_z0 c_z1 c_m0 c_m1
      replace s_x := s_x.up hb
      replace d_x := d_x.up hb
      replace s_y := s_y.up hb
      replace d_y := d_y.up hb
      replace s_z := s_z.up hb
      replace d_z := d_z.up hb
      replace s_j := s_j.up hb
      replace d_j := d_j.up hb
      replace s_m := s_m.up hb
      replace d_m := d_m.up hb
      replace B := Below.thn B hb
      clear hb
      generalize belowL xs zs = p
      generalize belowL ys zs = q
      generalize belowL zs xs = s
      generalize belowL zs ys = t
      cases p <;> cases q <;> cases s <;> cases t
      all_goals
        go_wp2
        go_ret
        exact ⟨rfl, B⟩
end Go.Proofs.Ytmckdefemdcknaa
