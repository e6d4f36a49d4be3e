/-
  Tables are made, read and written as the document says: the walk of TuplesTables.
-/
import Derived.Test.YtiikkbofcccjfaaT18
import Derived.Test.YtiikkbofcccjfaaT15
import Derived.Test.YtiikkbofcccjfaaT14
namespace Go.Proofs.Ytiikkbofcccjfaa
open Go.RowKit
open Go.Lib
open RowsM
set_option maxRecDepth 100000

theorem newK_len (ks : List Int) (t : Int) : (newK ks t).length ≤ ks.length := by unfold newK; split <;> simp
theorem newX_len (ks : List Int) (t : Int) : (newX ks t).length ≤ 17592186043904 := by
  unfold newX
  split
  · unfold zerosN okN
    split
    · rename_i h; simp at h; rw [List.length_replicate]; omega
    · simp
  · simp
theorem setK_len (ks : List Int) (t n : Int) (xs : List Nat) (ps : List Int) (p : Int) : (setK ks t n xs ps p).length ≤ ks.length := by unfold setK; split <;> simp
theorem setX_len (ks : List Int) (t n : Int) (xs : List Nat) (ps : List Int) (p : Int) : (setX ks t n xs ps p).length ≤ xs.length := by
  unfold setX
  split
  · unfold putL
    split
    · rw [List.length_set]; exact Nat.le_refl _
    · simp
  · simp
theorem own_read {w : World} {B : Nat} {po : Option Addr} {pc : Nat} {K : List Int} (hO : OwT w B (.slice po K.length pc) K) : Iz w po K := by
  obtain ⟨ao, c, e, hi, _, _⟩ := own_iz hO rfl
  simp only [Value.slice.injEq, true_and] at e
  obtain ⟨rfl, rfl⟩ := e
  exact hi


set_option maxHeartbeats 8000000 in
theorem tuplesTables_any (ks : List Int) (t n : Int) (xs : List Nat) (ao bo : Option Addr) (ca cb : Nat) (ps : List Int) (co : Option Addr) (cc : Nat) (p : Int) (w : World) (h : TbW w ks xs ao bo ca cb) (g : Iz w co ps) (gl : ps.length ≤ 17592186043904) :
    Calls Try.prog 4 #[.agg #[.slice ao ks.length ca, .int .i64 t, .int .i64 n, .slice bo xs.length cb], .slice co ps.length cc, .int .i64 p] w fun e w' => e = .returned (.bool true) ∧ Below w.heap.size w w' := by
  have s3 := S4.new w (.slice ao ks.length ca) (.int .i64 t) (.int .i64 n) (.slice bo xs.length cb)
  have B := below_alloc w (.cells #[.slice ao ks.length ca, .int .i64 t, .int .i64 n, .slice bo xs.length cb] 43)
  replace h := h.up B
  replace g := g.up B
  have l1 := h.l1
  have l2 := h.l2
  have k1 := h.c1
  have c1 := fun w h => new16_any ks t ao ca w h l1 k1
  have c2 := fun w h => rnew16_any ks t ao ca w h l1 k1
  have c3 := fun w h => points16_any ks t n xs ao bo ca cb w h
  have c4 := fun po so pc sc w h => tcheck_any ks t n xs po so pc sc w h
  have c5 := fun po so pc sc w h g => at_any ks t n xs po so pc sc w h ps co cc g gl
  have c6 := fun w h g => rat_any ks t n xs ao bo ca cb w h ps co cc g gl
  have c7 := fun po so pc sc w h g hc => tset_any ks t n xs po so pc sc w h ps co cc g gl p hc
  have c8 := fun w h g => rset_any ks t n xs ao bo ca cb w h ps co cc g gl p k1
  have c9 := fun po so pc sc w h => rises_any ks t n xs po so pc sc w h
  have c10 := fun w h => rrises_any ks t n xs ao bo ca cb w h
  have hK := Nat.le_trans (newK_len ks t) l1
  have hX := newX_len ks t
  have hK2 := Nat.le_trans (setK_len ks t n xs ps p) l1
  have hX2 := Nat.le_trans (setX_len ks t n xs ps p) l2
  generalize newK ks t = K at *
  generalize newT ks t = T at *
  generalize newN ks t = N at *
  generalize newE ks t = E at *
  generalize newX ks t = X at *
  generalize setK ks t n xs ps p = K2 at *
  generalize setT ks t n xs ps p = T2 at *
  generalize setN ks t n xs ps p = N2 at *
  generalize setE ks t n xs ps p = E2 at *
  generalize setX ks t n xs ps p = X2 at *
  generalize atV ks t n xs ps = V1 at *
  generalize fndE ks t n xs ps = E1 at *
  generalize rsV ks t n xs = V3 at *
  generalize rsE ks t n xs = E3 at *
  cases hr : okTab ks t n xs with
  | true =>
    rw [hr] at c3 c4
    simp only [if_true] at c4
    clear hr l1 l2 k1
    obtain ⟨p0, p1, p2, p3⟩ := s3.cells
    go_enter Try.func4, Try.ntmps4
    go_wp2_with fail
    refine (awake16_any _).mono ?_
    rintro e w1 ⟨rfl, hb⟩
    clear p0 p1 p2 p3
    replace h := h.up hb
    replace g := g.up hb
    replace s3 := s3.up hb
    replace B := Below.thn B hb
    clear hb
    obtain ⟨p0, p1, p2, p3⟩ := s3.cells
    go_wp2_with fail
    refine (c1 _ h.iz).mono ?_
    rintro e w2 ⟨no, nc, mo, mc, rfl, hO, hf, hb⟩
    clear p0 p1 p2 p3
    replace h := h.up hb
    replace g := g.up hb
    replace s3 := s3.up hb
    replace B := Below.thn B hb
    clear hb
    obtain ⟨p0, p1, p2, p3⟩ := s3.cells
    have nT := tab_tb hO hf hK hX
    clear hO hf c1
    clear p0 p1 p2 p3
    have hb := below_alloc w2 (.cells #[.slice no K.length nc, .int .i64 T, .int .i64 N, .slice mo X.length mc] 43)
    replace h := h.up hb
    replace g := g.up hb
    replace nT := nT.up hb
    replace s3 := s3.up hb
    replace B := Below.thn B hb
    clear hb
    have sn := S4.new w2 (.slice no K.length nc) (.int .i64 T) (.int .i64 N) (.slice mo X.length mc)
    obtain ⟨p0, p1, p2, p3⟩ := s3.cells
    obtain ⟨q0, q1, q2, q3⟩ := sn.cells
    go_wp2_with fail
    refine (c2 _ h.iz).mono ?_
    rintro e w3 ⟨no2, nc2, mo2, mc2, rfl, hO, mR, hb⟩
    clear p0 p1 p2 p3
    clear q0 q1 q2 q3
    replace h := h.up hb
    replace g := g.up hb
    replace nT := nT.up hb
    replace s3 := s3.up hb
    replace sn := sn.up hb
    replace B := Below.thn B hb
    clear hb
    obtain ⟨p0, p1, p2, p3⟩ := s3.cells
    obtain ⟨q0, q1, q2, q3⟩ := sn.cells
    have mI := own_read hO
    clear hO c2
    clear p0 p1 p2 p3
    clear q0 q1 q2 q3
    have hb := below_alloc w3 (.cells #[.slice no2 K.length nc2, .int .i64 T, .int .i64 N, .slice mo2 X.length mc2] 43)
    replace h := h.up hb
    replace g := g.up hb
    replace nT := nT.up hb
    replace mI := mI.up hb
    replace mR := mR.up hb
    replace s3 := s3.up hb
    replace sn := sn.up hb
    replace B := Below.thn B hb
    clear hb
    have sm := S4.new w3 (.slice no2 K.length nc2) (.int .i64 T) (.int .i64 N) (.slice mo2 X.length mc2)
    obtain ⟨p0, p1, p2, p3⟩ := s3.cells
    obtain ⟨q0, q1, q2, q3⟩ := sn.cells
    obtain ⟨u0, u1, u2, u3⟩ := sm.cells
    go_wp2_with fail
    refine (c3 _ h).mono ?_
    rintro e w4 ⟨v, rfl, _, _, hb⟩
    clear p0 p1 p2 p3
    clear q0 q1 q2 q3
    clear u0 u1 u2 u3
    replace h := h.up hb
    replace g := g.up hb
    replace nT := nT.up hb
    replace mI := mI.up hb
    replace mR := mR.up hb
    replace s3 := s3.up hb
    replace sn := sn.up hb
    replace sm := sm.up hb
    replace B := Below.thn B hb
    clear hb
    obtain ⟨p0, p1, p2, p3⟩ := s3.cells
    obtain ⟨q0, q1, q2, q3⟩ := sn.cells
    obtain ⟨u0, u1, u2, u3⟩ := sm.cells
    clear c3
    go_wp2_with fail
    refine (copied16_any ks t n xs ao bo ca cb _ h).mono ?_
    rintro e w5 ⟨po, pc, so, sc, rfl, kT, hb⟩
    clear p0 p1 p2 p3
    clear q0 q1 q2 q3
    clear u0 u1 u2 u3
    replace h := h.up hb
    replace g := g.up hb
    replace nT := nT.up hb
    replace mI := mI.up hb
    replace mR := mR.up hb
    replace s3 := s3.up hb
    replace sn := sn.up hb
    replace sm := sm.up hb
    replace B := Below.thn B hb
    clear hb
    obtain ⟨p0, p1, p2, p3⟩ := s3.cells
    obtain ⟨q0, q1, q2, q3⟩ := sn.cells
    obtain ⟨u0, u1, u2, u3⟩ := sm.cells
    go_wp2_with fail
    refine (c4 _ _ _ _ _ kT).mono ?_
    rintro e w6 ⟨rfl, hb⟩
    clear p0 p1 p2 p3
    clear q0 q1 q2 q3
    clear u0 u1 u2 u3
    replace h := h.up hb
    replace g := g.up hb
    replace nT := nT.up hb
    replace mI := mI.up hb
    replace mR := mR.up hb
    replace kT := kT.up hb
    replace s3 := s3.up hb
    replace sn := sn.up hb
    replace sm := sm.up hb
    replace B := Below.thn B hb
    clear hb
    obtain ⟨p0, p1, p2, p3⟩ := s3.cells
    obtain ⟨q0, q1, q2, q3⟩ := sn.cells
    obtain ⟨u0, u1, u2, u3⟩ := sm.cells
    clear kT
    clear c4
    go_wp2_with fail
    refine (rsame_one K T N X no mo no2 mo2 nc mc nc2 mc2 _ nT.iz nT.rd mI mR hK hX).mono ?_
    rintro e w7 ⟨rfl, hb⟩
    clear p0 p1 p2 p3
    clear q0 q1 q2 q3
    clear u0 u1 u2 u3
    replace h := h.up hb
    replace g := g.up hb
    replace nT := nT.up hb
    replace mI := mI.up hb
    replace mR := mR.up hb
    replace s3 := s3.up hb
    replace sn := sn.up hb
    replace sm := sm.up hb
    replace B := Below.thn B hb
    clear hb
    obtain ⟨p0, p1, p2, p3⟩ := s3.cells
    obtain ⟨q0, q1, q2, q3⟩ := sn.cells
    obtain ⟨u0, u1, u2, u3⟩ := sm.cells
    clear nT
    clear mI
    clear mR
    clear sn q0 q1 q2 q3
    clear sm u0 u1 u2 u3
    go_wp2_with fail
    refine (copied16_any ks t n xs ao bo ca cb _ h).mono ?_
    rintro e w8 ⟨po, pc, so, sc, rfl, kT, hb⟩
    clear p0 p1 p2 p3
    replace h := h.up hb
    replace g := g.up hb
    replace s3 := s3.up hb
    replace B := Below.thn B hb
    clear hb
    obtain ⟨p0, p1, p2, p3⟩ := s3.cells
    go_wp2_with fail
    refine (c5 _ _ _ _ _ kT g).mono ?_
    rintro e w9 ⟨rfl, hb⟩
    clear p0 p1 p2 p3
    replace h := h.up hb
    replace g := g.up hb
    replace kT := kT.up hb
    replace s3 := s3.up hb
    replace B := Below.thn B hb
    clear hb
    obtain ⟨p0, p1, p2, p3⟩ := s3.cells
    clear kT
    clear c5
    go_wp2_with fail
    refine (c6 _ h g).mono ?_
    rintro e w10 ⟨rfl, hb⟩
    clear p0 p1 p2 p3
    replace h := h.up hb
    replace g := g.up hb
    replace s3 := s3.up hb
    replace B := Below.thn B hb
    clear hb
    obtain ⟨p0, p1, p2, p3⟩ := s3.cells
    clear c6
    go_wp2_with fail
    refine (copied16_any ks t n xs ao bo ca cb _ h).mono ?_
    rintro e w11 ⟨po, pc, so, sc, rfl, kT, hb⟩
    clear p0 p1 p2 p3
    replace h := h.up hb
    replace g := g.up hb
    replace s3 := s3.up hb
    replace B := Below.thn B hb
    clear hb
    obtain ⟨p0, p1, p2, p3⟩ := s3.cells
    go_wp2_with fail
    refine (c7 _ _ _ _ _ kT g kT.c1).mono ?_
    rintro e w12 ⟨no, nc, mo, mc, rfl, hO, hf, hb⟩
    clear p0 p1 p2 p3
    replace h := h.up hb
    replace g := g.up hb
    replace kT := kT.up hb
    replace s3 := s3.up hb
    replace B := Below.thn B hb
    clear hb
    obtain ⟨p0, p1, p2, p3⟩ := s3.cells
    clear kT
    have nI := own_read hO
    have nR := hf.rd
    clear hO hf c7
    clear p0 p1 p2 p3
    have hb := below_alloc w12 (.cells #[.slice no K2.length nc, .int .i64 T2, .int .i64 N2, .slice mo X2.length mc] 43)
    replace h := h.up hb
    replace g := g.up hb
    replace nI := nI.up hb
    replace nR := nR.up hb
    replace s3 := s3.up hb
    replace B := Below.thn B hb
    clear hb
    have sn := S4.new w12 (.slice no K2.length nc) (.int .i64 T2) (.int .i64 N2) (.slice mo X2.length mc)
    obtain ⟨p0, p1, p2, p3⟩ := s3.cells
    obtain ⟨q0, q1, q2, q3⟩ := sn.cells
    go_wp2_with fail
    refine (c8 _ h g).mono ?_
    rintro e w13 ⟨no2, nc2, mo2, mc2, rfl, hO, mR, hb⟩
    clear p0 p1 p2 p3
    clear q0 q1 q2 q3
    replace h := h.up hb
    replace g := g.up hb
    replace nI := nI.up hb
    replace nR := nR.up hb
    replace s3 := s3.up hb
    replace sn := sn.up hb
    replace B := Below.thn B hb
    clear hb
    obtain ⟨p0, p1, p2, p3⟩ := s3.cells
    obtain ⟨q0, q1, q2, q3⟩ := sn.cells
    have mI := own_read hO
    clear hO c8
    clear p0 p1 p2 p3
    clear q0 q1 q2 q3
    have hb := below_alloc w13 (.cells #[.slice no2 K2.length nc2, .int .i64 T2, .int .i64 N2, .slice mo2 X2.length mc2] 43)
    replace h := h.up hb
    replace g := g.up hb
    replace nI := nI.up hb
    replace nR := nR.up hb
    replace mI := mI.up hb
    replace mR := mR.up hb
    replace s3 := s3.up hb
    replace sn := sn.up hb
    replace B := Below.thn B hb
    clear hb
    have sm := S4.new w13 (.slice no2 K2.length nc2) (.int .i64 T2) (.int .i64 N2) (.slice mo2 X2.length mc2)
    obtain ⟨p0, p1, p2, p3⟩ := s3.cells
    obtain ⟨q0, q1, q2, q3⟩ := sn.cells
    obtain ⟨u0, u1, u2, u3⟩ := sm.cells
    clear g
    go_wp2_with fail
    refine (copied16_any ks t n xs ao bo ca cb _ h).mono ?_
    rintro e w14 ⟨po, pc, so, sc, rfl, kT, hb⟩
    clear p0 p1 p2 p3
    clear q0 q1 q2 q3
    clear u0 u1 u2 u3
    replace h := h.up hb
    replace nI := nI.up hb
    replace nR := nR.up hb
    replace mI := mI.up hb
    replace mR := mR.up hb
    replace s3 := s3.up hb
    replace sn := sn.up hb
    replace sm := sm.up hb
    replace B := Below.thn B hb
    clear hb
    obtain ⟨p0, p1, p2, p3⟩ := s3.cells
    obtain ⟨q0, q1, q2, q3⟩ := sn.cells
    obtain ⟨u0, u1, u2, u3⟩ := sm.cells
    go_wp2_with fail
    refine (c9 _ _ _ _ _ kT).mono ?_
    rintro e w15 ⟨rfl, hb⟩
    clear p0 p1 p2 p3
    clear q0 q1 q2 q3
    clear u0 u1 u2 u3
    replace h := h.up hb
    replace nI := nI.up hb
    replace nR := nR.up hb
    replace mI := mI.up hb
    replace mR := mR.up hb
    replace kT := kT.up hb
    replace s3 := s3.up hb
    replace sn := sn.up hb
    replace sm := sm.up hb
    replace B := Below.thn B hb
    clear hb
    obtain ⟨p0, p1, p2, p3⟩ := s3.cells
    obtain ⟨q0, q1, q2, q3⟩ := sn.cells
    obtain ⟨u0, u1, u2, u3⟩ := sm.cells
    clear kT
    clear c9
    go_wp2_with fail
    refine (c10 _ h).mono ?_
    rintro e w16 ⟨rfl, hb⟩
    clear p0 p1 p2 p3
    clear q0 q1 q2 q3
    clear u0 u1 u2 u3
    replace h := h.up hb
    replace nI := nI.up hb
    replace nR := nR.up hb
    replace mI := mI.up hb
    replace mR := mR.up hb
    replace s3 := s3.up hb
    replace sn := sn.up hb
    replace sm := sm.up hb
    replace B := Below.thn B hb
    clear hb
    obtain ⟨p0, p1, p2, p3⟩ := s3.cells
    obtain ⟨q0, q1, q2, q3⟩ := sn.cells
    obtain ⟨u0, u1, u2, u3⟩ := sm.cells
    clear h
    clear s3 p0 p1 p2 p3
    clear c10
    go_wp2_with fail
    refine (rsame_one K2 T2 N2 X2 no mo no2 mo2 nc mc nc2 mc2 _ nI nR mI mR hK2 hX2).mono ?_
    rintro e w17 ⟨rfl, hb⟩
    clear q0 q1 q2 q3
    clear u0 u1 u2 u3
    replace nI := nI.up hb
    replace nR := nR.up hb
    replace mI := mI.up hb
    replace mR := mR.up hb
    replace sn := sn.up hb
    replace sm := sm.up hb
    replace B := Below.thn B hb
    clear hb
    obtain ⟨q0, q1, q2, q3⟩ := sn.cells
    obtain ⟨u0, u1, u2, u3⟩ := sm.cells
    clear nI
    clear nR
    clear mI
    clear mR
    clear sn q0 q1 q2 q3
    clear sm u0 u1 u2 u3
    go_wp2
    go_ret
    exact ⟨rfl, B⟩
  | false =>
    rw [hr] at c3 c4
    simp only [Bool.false_eq_true, if_false] at c4
    clear hr l1 l2 k1
    obtain ⟨p0, p1, p2, p3⟩ := s3.cells
    go_enter Try.func4, Try.ntmps4
    go_wp2_with fail
    refine (awake16_any _).mono ?_
    rintro e w1 ⟨rfl, hb⟩
    clear p0 p1 p2 p3
    replace h := h.up hb
    replace g := g.up hb
    replace s3 := s3.up hb
    replace B := Below.thn B hb
    clear hb
    obtain ⟨p0, p1, p2, p3⟩ := s3.cells
    go_wp2_with fail
    refine (c1 _ h.iz).mono ?_
    rintro e w2 ⟨no, nc, mo, mc, rfl, hO, hf, hb⟩
    clear p0 p1 p2 p3
    replace h := h.up hb
    replace g := g.up hb
    replace s3 := s3.up hb
    replace B := Below.thn B hb
    clear hb
    obtain ⟨p0, p1, p2, p3⟩ := s3.cells
    have nT := tab_tb hO hf hK hX
    clear hO hf c1
    clear p0 p1 p2 p3
    have hb := below_alloc w2 (.cells #[.slice no K.length nc, .int .i64 T, .int .i64 N, .slice mo X.length mc] 43)
    replace h := h.up hb
    replace g := g.up hb
    replace nT := nT.up hb
    replace s3 := s3.up hb
    replace B := Below.thn B hb
    clear hb
    have sn := S4.new w2 (.slice no K.length nc) (.int .i64 T) (.int .i64 N) (.slice mo X.length mc)
    obtain ⟨p0, p1, p2, p3⟩ := s3.cells
    obtain ⟨q0, q1, q2, q3⟩ := sn.cells
    go_wp2_with fail
    refine (c2 _ h.iz).mono ?_
    rintro e w3 ⟨no2, nc2, mo2, mc2, rfl, hO, mR, hb⟩
    clear p0 p1 p2 p3
    clear q0 q1 q2 q3
    replace h := h.up hb
    replace g := g.up hb
    replace nT := nT.up hb
    replace s3 := s3.up hb
    replace sn := sn.up hb
    replace B := Below.thn B hb
    clear hb
    obtain ⟨p0, p1, p2, p3⟩ := s3.cells
    obtain ⟨q0, q1, q2, q3⟩ := sn.cells
    have mI := own_read hO
    clear hO c2
    clear p0 p1 p2 p3
    clear q0 q1 q2 q3
    have hb := below_alloc w3 (.cells #[.slice no2 K.length nc2, .int .i64 T, .int .i64 N, .slice mo2 X.length mc2] 43)
    replace h := h.up hb
    replace g := g.up hb
    replace nT := nT.up hb
    replace mI := mI.up hb
    replace mR := mR.up hb
    replace s3 := s3.up hb
    replace sn := sn.up hb
    replace B := Below.thn B hb
    clear hb
    have sm := S4.new w3 (.slice no2 K.length nc2) (.int .i64 T) (.int .i64 N) (.slice mo2 X.length mc2)
    obtain ⟨p0, p1, p2, p3⟩ := s3.cells
    obtain ⟨q0, q1, q2, q3⟩ := sn.cells
    obtain ⟨u0, u1, u2, u3⟩ := sm.cells
    go_wp2_with fail
    refine (c3 _ h).mono ?_
    rintro e w4 ⟨v, rfl, _, _, hb⟩
    clear p0 p1 p2 p3
    clear q0 q1 q2 q3
    clear u0 u1 u2 u3
    replace h := h.up hb
    replace g := g.up hb
    replace nT := nT.up hb
    replace mI := mI.up hb
    replace mR := mR.up hb
    replace s3 := s3.up hb
    replace sn := sn.up hb
    replace sm := sm.up hb
    replace B := Below.thn B hb
    clear hb
    obtain ⟨p0, p1, p2, p3⟩ := s3.cells
    obtain ⟨q0, q1, q2, q3⟩ := sn.cells
    obtain ⟨u0, u1, u2, u3⟩ := sm.cells
    clear c3
    go_wp2_with fail
    refine (copied16_any ks t n xs ao bo ca cb _ h).mono ?_
    rintro e w5 ⟨po, pc, so, sc, rfl, kT, hb⟩
    clear p0 p1 p2 p3
    clear q0 q1 q2 q3
    clear u0 u1 u2 u3
    replace h := h.up hb
    replace g := g.up hb
    replace nT := nT.up hb
    replace mI := mI.up hb
    replace mR := mR.up hb
    replace s3 := s3.up hb
    replace sn := sn.up hb
    replace sm := sm.up hb
    replace B := Below.thn B hb
    clear hb
    obtain ⟨p0, p1, p2, p3⟩ := s3.cells
    obtain ⟨q0, q1, q2, q3⟩ := sn.cells
    obtain ⟨u0, u1, u2, u3⟩ := sm.cells
    go_wp2_with fail
    refine (c4 _ _ _ _ _ kT).mono ?_
    rintro e w6 ⟨rfl, hb⟩
    clear p0 p1 p2 p3
    clear q0 q1 q2 q3
    clear u0 u1 u2 u3
    replace h := h.up hb
    replace g := g.up hb
    replace nT := nT.up hb
    replace mI := mI.up hb
    replace mR := mR.up hb
    replace kT := kT.up hb
    replace s3 := s3.up hb
    replace sn := sn.up hb
    replace sm := sm.up hb
    replace B := Below.thn B hb
    clear hb
    obtain ⟨p0, p1, p2, p3⟩ := s3.cells
    obtain ⟨q0, q1, q2, q3⟩ := sn.cells
    obtain ⟨u0, u1, u2, u3⟩ := sm.cells
    clear kT
    clear c4
    go_wp2_with fail
    refine (rsame_one K T N X no mo no2 mo2 nc mc nc2 mc2 _ nT.iz nT.rd mI mR hK hX).mono ?_
    rintro e w7 ⟨rfl, hb⟩
    clear p0 p1 p2 p3
    clear q0 q1 q2 q3
    clear u0 u1 u2 u3
    replace h := h.up hb
    replace g := g.up hb
    replace nT := nT.up hb
    replace mI := mI.up hb
    replace mR := mR.up hb
    replace s3 := s3.up hb
    replace sn := sn.up hb
    replace sm := sm.up hb
    replace B := Below.thn B hb
    clear hb
    obtain ⟨p0, p1, p2, p3⟩ := s3.cells
    obtain ⟨q0, q1, q2, q3⟩ := sn.cells
    obtain ⟨u0, u1, u2, u3⟩ := sm.cells
    clear nT
    clear mI
    clear mR
    clear sn q0 q1 q2 q3
    clear sm u0 u1 u2 u3
    go_wp2_with fail
    refine (copied16_any ks t n xs ao bo ca cb _ h).mono ?_
    rintro e w8 ⟨po, pc, so, sc, rfl, kT, hb⟩
    clear p0 p1 p2 p3
    replace h := h.up hb
    replace g := g.up hb
    replace s3 := s3.up hb
    replace B := Below.thn B hb
    clear hb
    obtain ⟨p0, p1, p2, p3⟩ := s3.cells
    go_wp2_with fail
    refine (c5 _ _ _ _ _ kT g).mono ?_
    rintro e w9 ⟨rfl, hb⟩
    clear p0 p1 p2 p3
    replace h := h.up hb
    replace g := g.up hb
    replace kT := kT.up hb
    replace s3 := s3.up hb
    replace B := Below.thn B hb
    clear hb
    obtain ⟨p0, p1, p2, p3⟩ := s3.cells
    clear kT
    clear c5
    go_wp2_with fail
    refine (c6 _ h g).mono ?_
    rintro e w10 ⟨rfl, hb⟩
    clear p0 p1 p2 p3
    replace h := h.up hb
    replace g := g.up hb
    replace s3 := s3.up hb
    replace B := Below.thn B hb
    clear hb
    obtain ⟨p0, p1, p2, p3⟩ := s3.cells
    clear c6
    go_wp2_with fail
    refine (copied16_any ks t n xs ao bo ca cb _ h).mono ?_
    rintro e w11 ⟨po, pc, so, sc, rfl, kT, hb⟩
    clear p0 p1 p2 p3
    replace h := h.up hb
    replace g := g.up hb
    replace s3 := s3.up hb
    replace B := Below.thn B hb
    clear hb
    obtain ⟨p0, p1, p2, p3⟩ := s3.cells
    go_wp2_with fail
    refine (c7 _ _ _ _ _ kT g kT.c1).mono ?_
    rintro e w12 ⟨no, nc, mo, mc, rfl, hO, hf, hb⟩
    clear p0 p1 p2 p3
    replace h := h.up hb
    replace g := g.up hb
    replace kT := kT.up hb
    replace s3 := s3.up hb
    replace B := Below.thn B hb
    clear hb
    obtain ⟨p0, p1, p2, p3⟩ := s3.cells
    clear kT
    have nI := own_read hO
    have nR := hf.rd
    clear hO hf c7
    clear p0 p1 p2 p3
    have hb := below_alloc w12 (.cells #[.slice no K2.length nc, .int .i64 T2, .int .i64 N2, .slice mo X2.length mc] 43)
    replace h := h.up hb
    replace g := g.up hb
    replace nI := nI.up hb
    replace nR := nR.up hb
    replace s3 := s3.up hb
    replace B := Below.thn B hb
    clear hb
    have sn := S4.new w12 (.slice no K2.length nc) (.int .i64 T2) (.int .i64 N2) (.slice mo X2.length mc)
    obtain ⟨p0, p1, p2, p3⟩ := s3.cells
    obtain ⟨q0, q1, q2, q3⟩ := sn.cells
    go_wp2_with fail
    refine (c8 _ h g).mono ?_
    rintro e w13 ⟨no2, nc2, mo2, mc2, rfl, hO, mR, hb⟩
    clear p0 p1 p2 p3
    clear q0 q1 q2 q3
    replace h := h.up hb
    replace g := g.up hb
    replace nI := nI.up hb
    replace nR := nR.up hb
    replace s3 := s3.up hb
    replace sn := sn.up hb
    replace B := Below.thn B hb
    clear hb
    obtain ⟨p0, p1, p2, p3⟩ := s3.cells
    obtain ⟨q0, q1, q2, q3⟩ := sn.cells
    have mI := own_read hO
    clear hO c8
    clear p0 p1 p2 p3
    clear q0 q1 q2 q3
    have hb := below_alloc w13 (.cells #[.slice no2 K2.length nc2, .int .i64 T2, .int .i64 N2, .slice mo2 X2.length mc2] 43)
    replace h := h.up hb
    replace g := g.up hb
    replace nI := nI.up hb
    replace nR := nR.up hb
    replace mI := mI.up hb
    replace mR := mR.up hb
    replace s3 := s3.up hb
    replace sn := sn.up hb
    replace B := Below.thn B hb
    clear hb
    have sm := S4.new w13 (.slice no2 K2.length nc2) (.int .i64 T2) (.int .i64 N2) (.slice mo2 X2.length mc2)
    obtain ⟨p0, p1, p2, p3⟩ := s3.cells
    obtain ⟨q0, q1, q2, q3⟩ := sn.cells
    obtain ⟨u0, u1, u2, u3⟩ := sm.cells
    clear g
    go_wp2_with fail
    refine (copied16_any ks t n xs ao bo ca cb _ h).mono ?_
    rintro e w14 ⟨po, pc, so, sc, rfl, kT, hb⟩
    clear p0 p1 p2 p3
    clear q0 q1 q2 q3
    clear u0 u1 u2 u3
    replace h := h.up hb
    replace nI := nI.up hb
    replace nR := nR.up hb
    replace mI := mI.up hb
    replace mR := mR.up hb
    replace s3 := s3.up hb
    replace sn := sn.up hb
    replace sm := sm.up hb
    replace B := Below.thn B hb
    clear hb
    obtain ⟨p0, p1, p2, p3⟩ := s3.cells
    obtain ⟨q0, q1, q2, q3⟩ := sn.cells
    obtain ⟨u0, u1, u2, u3⟩ := sm.cells
    go_wp2_with fail
    refine (c9 _ _ _ _ _ kT).mono ?_
    rintro e w15 ⟨rfl, hb⟩
    clear p0 p1 p2 p3
    clear q0 q1 q2 q3
    clear u0 u1 u2 u3
    replace h := h.up hb
    replace nI := nI.up hb
    replace nR := nR.up hb
    replace mI := mI.up hb
    replace mR := mR.up hb
    replace kT := kT.up hb
    replace s3 := s3.up hb
    replace sn := sn.up hb
    replace sm := sm.up hb
    replace B := Below.thn B hb
    clear hb
    obtain ⟨p0, p1, p2, p3⟩ := s3.cells
    obtain ⟨q0, q1, q2, q3⟩ := sn.cells
    obtain ⟨u0, u1, u2, u3⟩ := sm.cells
    clear kT
    clear c9
    go_wp2_with fail
    refine (c10 _ h).mono ?_
    rintro e w16 ⟨rfl, hb⟩
    clear p0 p1 p2 p3
    clear q0 q1 q2 q3
    clear u0 u1 u2 u3
    replace h := h.up hb
    replace nI := nI.up hb
    replace nR := nR.up hb
    replace mI := mI.up hb
    replace mR := mR.up hb
    replace s3 := s3.up hb
    replace sn := sn.up hb
    replace sm := sm.up hb
    replace B := Below.thn B hb
    clear hb
    obtain ⟨p0, p1, p2, p3⟩ := s3.cells
    obtain ⟨q0, q1, q2, q3⟩ := sn.cells
    obtain ⟨u0, u1, u2, u3⟩ := sm.cells
    clear h
    clear s3 p0 p1 p2 p3
    clear c10
    go_wp2_with fail
    refine (rsame_one K2 T2 N2 X2 no mo no2 mo2 nc mc nc2 mc2 _ nI nR mI mR hK2 hX2).mono ?_
    rintro e w17 ⟨rfl, hb⟩
    clear q0 q1 q2 q3
    clear u0 u1 u2 u3
    replace nI := nI.up hb
    replace nR := nR.up hb
    replace mI := mI.up hb
    replace mR := mR.up hb
    replace sn := sn.up hb
    replace sm := sm.up hb
    replace B := Below.thn B hb
    clear hb
    obtain ⟨q0, q1, q2, q3⟩ := sn.cells
    obtain ⟨u0, u1, u2, u3⟩ := sm.cells
    clear nI
    clear nR
    clear mI
    clear mR
    clear sn q0 q1 q2 q3
    clear sm u0 u1 u2 u3
    go_wp2
    go_ret
    exact ⟨rfl, B⟩
end Go.Proofs.Ytiikkbofcccjfaa
