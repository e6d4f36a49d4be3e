/-
  The walk of RowsCells.
-/
import Derived.Test.YtmckdefemdcknaaRp
namespace Go.Proofs.Ytmckdefemdcknaa
open Go.RowKit
open RowsM

set_option maxHeartbeats 4000000 in
theorem cells_law (n : Int) (ao : Option Addr) (ca : Nat) (xs : List Nat) (i v : Int) (w : World) (d_x : Rd w ao xs) (l1 : xs.length ≤ 17592186043904) (hcap : ao = none → ca = 0) :
    Calls Try.prog 4 #[.agg #[.int .i64 n, .slice ao xs.length ca], .int .i64 i, .int .i64 v] w fun e w' => e = .returned (.bool true) ∧ Below w.heap.size w w' := by
  have s_x := St.new w (.int .i64 n) (.slice ao xs.length ca)
  have B := below_alloc w (.cells #[.int .i64 n, .slice ao xs.length ca] 24)
  replace d_x := d_x.up B
  have a1 := fun so c w (h : Rd w so xs) => get_any n so c xs i w h l1
  have a2 := fun so c w (h : Rd w so xs) => refget_any n so c xs i w h l1
  have a3 := fun so c w (h : Rd w so xs) => put_any n so c xs i v w h l1
  have a4 := fun so c w (h : Rd w so xs) => refput_any n so c xs i v w h l1
  have a5 := fun so c w (h : Rd w so xs) => count_any n so c xs v w h l1
  have a6 := fun so c w (h : Rd w so xs) => refcount_any n so c xs v w h l1
  have hPl : (putL n xs i v).length ≤ 17592186043904 := by
    unfold putL
    split
    · rw [List.length_set]; exact l1
    · simp
  generalize ((getV n xs i : Nat) : Int) = V1 at *
  generalize getE n xs i = E1 at *
  generalize (if okPut n xs i v then n else 0) = N2 at *
  generalize putE n xs i v = E2 at *
  generalize putL n xs i v = P at *
  generalize countV n xs v = V3 at *
  generalize countE n xs v = E3 at *
  go_enter Try.func4, Try.ntmps4
  go_wp2_with fail
  refine (awake_any _).mono ?_
  rintro e w1 ⟨rfl, hb⟩
  replace s_x := s_x.up hb
  replace d_x := d_x.up hb
  replace B := Below.thn B hb
  clear hb
  obtain ⟨c_x0, c_x1, _, _⟩ := s_x.cells
  go_wp2_with fail
  refine (copied_any n ao ca xs _ d_x l1 hcap).mono ?_
  rintro e w_c1 ⟨ao_c1, ca_c1, rfl, d_c1, hb⟩
  clear c_x0 c_x1
  replace s_x := s_x.up hb
  replace d_x := d_x.up hb
  replace B := Below.thn B hb
  clear hb
  go_wp2_with fail
  refine (a1 ao_c1 ca_c1 _ d_c1).mono ?_
  rintro e w2 ⟨rfl, hb⟩
  clear d_c1
  replace s_x := s_x.up hb
  replace d_x := d_x.up hb
  replace B := Below.thn B hb
  clear hb
  obtain ⟨c_x0, c_x1, _, _⟩ := s_x.cells
  go_wp2_with fail
  refine (a2 ao ca _ d_x).mono ?_
  rintro e w3 ⟨rfl, hb⟩
  clear c_x0 c_x1
  replace s_x := s_x.up hb
  replace d_x := d_x.up hb
  replace B := Below.thn B hb
  clear hb
  obtain ⟨c_x0, c_x1, _, _⟩ := s_x.cells
  go_wp2_with fail
  refine (copied_any n ao ca xs _ d_x l1 hcap).mono ?_
  rintro e w_c2 ⟨ao_c2, ca_c2, rfl, d_c2, hb⟩
  clear c_x0 c_x1
  replace s_x := s_x.up hb
  replace d_x := d_x.up hb
  replace B := Below.thn B hb
  clear hb
  go_wp2_with fail
  refine (a3 ao_c2 ca_c2 _ d_c2).mono ?_
  rintro e w4 ⟨ao_p, ca_p, rfl, hf, hb⟩
  have d_p := hf.rd
  clear d_c2 hf
  replace s_x := (s_x.up hb).alloc (.cells #[.int .i64 N2, .slice ao_p P.length ca_p] 24)
  replace d_x := (d_x.up hb).alloc (.cells #[.int .i64 N2, .slice ao_p P.length ca_p] 24)
  replace B := Below.thn (Below.thn B hb) (below_alloc _ (.cells #[.int .i64 N2, .slice ao_p P.length ca_p] 24))
  clear hb
  replace d_p := d_p.alloc (.cells #[.int .i64 N2, .slice ao_p P.length ca_p] 24)
  have s_p := St.new w4 (.int .i64 N2) (.slice ao_p P.length ca_p)
  obtain ⟨c_x0, c_x1, _, _⟩ := s_x.cells
  go_wp2_with fail
  refine (a4 ao ca _ d_x).mono ?_
  rintro e w5 ⟨ao_q, ca_q, rfl, d_q, hb⟩
  clear c_x0 c_x1
  replace s_x := (s_x.up hb).alloc (.cells #[.int .i64 N2, .slice ao_q P.length ca_q] 24)
  replace d_x := (d_x.up hb).alloc (.cells #[.int .i64 N2, .slice ao_q P.length ca_q] 24)
  replace s_p := (s_p.up hb).alloc (.cells #[.int .i64 N2, .slice ao_q P.length ca_q] 24)
  replace d_p := (d_p.up hb).alloc (.cells #[.int .i64 N2, .slice ao_q P.length ca_q] 24)
  replace B := Below.thn (Below.thn B hb) (below_alloc _ (.cells #[.int .i64 N2, .slice ao_q P.length ca_q] 24))
  clear hb
  replace d_q := d_q.alloc (.cells #[.int .i64 N2, .slice ao_q P.length ca_q] 24)
  have s_q := St.new w5 (.int .i64 N2) (.slice ao_q P.length ca_q)
  obtain ⟨c_x0, c_x1, _, _⟩ := s_x.cells
  go_wp2_with fail
  refine (copied_any n ao ca xs _ d_x l1 hcap).mono ?_
  rintro e w_c3 ⟨ao_c3, ca_c3, rfl, d_c3, hb⟩
  clear c_x0 c_x1
  replace s_x := s_x.up hb
  replace d_x := d_x.up hb
  replace s_p := s_p.up hb
  replace d_p := d_p.up hb
  replace s_q := s_q.up hb
  replace d_q := d_q.up hb
  replace B := Below.thn B hb
  clear hb
  go_wp2_with fail
  refine (a5 ao_c3 ca_c3 _ d_c3).mono ?_
  rintro e w6 ⟨rfl, hb⟩
  clear d_c3
  replace s_x := s_x.up hb
  replace d_x := d_x.up hb
  replace s_p := s_p.up hb
  replace d_p := d_p.up hb
  replace s_q := s_q.up hb
  replace d_q := d_q.up hb
  replace B := Below.thn B hb
  clear hb
  obtain ⟨c_x0, c_x1, _, _⟩ := s_x.cells
  go_wp2_with fail
  refine (a6 ao ca _ d_x).mono ?_
  rintro e w7 ⟨rfl, hb⟩
  clear c_x0 c_x1
  replace s_x := s_x.up hb
  replace d_x := d_x.up hb
  replace s_p := s_p.up hb
  replace d_p := d_p.up hb
  replace s_q := s_q.up hb
  replace d_q := d_q.up hb
  replace B := Below.thn B hb
  clear hb
  obtain ⟨c_p0, c_p1, _, _⟩ := s_p.cells
  obtain ⟨c_q0, c_q1, _, _⟩ := s_q.cells
  have htold := told_any N2 N2 ao_p ao_q ca_p ca_q P P E2 E2 _ d_p d_q hPl hPl
  have hsame : ((E2 == E2) && sameR N2 N2 P P) = true := by unfold sameR; simp
  rw [hsame] at htold
  clear hsame a1 a2 a3 a4 a5 a6
  go_wp2_with fail
  refine htold.mono ?_
  rintro e w8 ⟨rfl, hb⟩
  replace B := Below.thn B hb
  clear c_p0 c_p1 c_q0 c_q1
  clear hb htold s_p d_p s_q d_q s_x d_x
  go_wp2
  go_ret
  exact ⟨rfl, B⟩
end Go.Proofs.Ytmckdefemdcknaa
