/-
  No call changes a table that it was handed: the walk of TuplesKeep.
-/
import Derived.Test.YtiikkbofcccjfaaT23
namespace Go.Proofs.Ytiikkbofcccjfaa
open Go.RowKit
open Go.Lib
open RowsM
set_option maxRecDepth 100000

theorem same_self (xs : List Int) (ao bo : Option Addr) (ca cb : Nat) (w : World) (h : Iz w ao xs) (g : Iz w bo xs) (hl : xs.length ≤ 17592186043904) :
    Calls Try.prog 16 #[.slice ao xs.length ca, .slice bo xs.length cb] w fun e w' => e = .returned (.bool true) ∧ Below w.heap.size w w' := by
  have := same16_any xs xs ao bo ca cb w h g hl hl
  rw [show decide (xs = xs) = true from decide_eq_true rfl] at this
  exact this

set_option maxHeartbeats 16000000 in
theorem tuplesKeep_any (ks : List Int) (t n : Int) (xs : List Nat) (ao bo : Option Addr) (ca cb : Nat) (ps : List Int) (co : Option Addr) (cc : Nat) (p : Int) (w : World) (h : TbW w ks xs ao bo ca cb) (g : Iz w co ps) (gl : ps.length ≤ 17592186043904) (gc : co = none → cc = 0) :
    Calls Try.prog 7 #[.agg #[.slice ao ks.length ca, .int .i64 t, .int .i64 n, .slice bo xs.length cb], .slice co ps.length cc, .int .i64 p] w fun e w' => e = .returned (.bool true) ∧ Below w.heap.size w w' := by
  have s3 := S4.new w (.slice ao ks.length ca) (.int .i64 t) (.int .i64 n) (.slice bo xs.length cb)
  have B := below_alloc w (.cells #[.slice ao ks.length ca, .int .i64 t, .int .i64 n, .slice bo xs.length cb] 43)
  replace h := h.up B
  replace g := g.up B
  have l1 := h.l1
  have l2 := h.l2
  have k1 := h.c1
  have k2 := h.c2
  have c7 := fun fo cf po so pc sc w h g hc => tset_any ks t n xs po so pc sc w h ps fo cf g gl p hc
  have c8 := fun w h g => rset_any ks t n xs ao bo ca cb w h ps co cc g gl p k1
  have cN := fun po pc w h hc => new16_any ks t po pc w h l1 hc
  have cT := fun po pc w h => tuple_any ks 0 po pc w h l1
  have cR := fun w h => rtuple_any ks 0 ao ca w h l1
  have hK2 := Nat.le_trans (setK_len ks t n xs ps p) l1
  have hX2 := Nat.le_trans (setX_len ks t n xs ps p) l2
  have hY := Nat.le_trans (tupV_len ks 0) l1
  have hK3 := Nat.le_trans (newK_len ks t) l1
  unfold TupEnd at cT cR
  generalize newK ks t = K3 at *
  generalize newT ks t = T3 at *
  generalize newN ks t = N3 at *
  generalize newE ks t = E3 at *
  generalize newX ks t = X3 at *
  generalize setK ks t n xs ps p = K2 at *
  generalize setT ks t n xs ps p = T2 at *
  generalize setN ks t n xs ps p = N2 at *
  generalize setE ks t n xs ps p = E2 at *
  generalize setX ks t n xs ps p = X2 at *
  generalize tupV ks 0 = Y at *
  generalize tupE ks 0 = EY at *
  have hX2m : X2.length ≤ maxLen := by unfold maxLen; omega
  obtain ⟨p0, p1, p2, p3⟩ := s3.cells
  go_enter Try.func7, Try.ntmps7
  go_wp2_with fail
  refine (awake16_any _).mono ?_
  rintro e w1 ⟨rfl, hb⟩
  replace s3 := s3.up hb
  replace h := h.up hb
  replace g := g.up hb
  have hs3 := s3.lt
  replace B := Below.thn B hb
  clear hb p0 p1 p2 p3
  obtain ⟨p0, p1, p2, p3⟩ := s3.cells
  go_wp2_with fail
  refine (copied16_any ks t n xs ao bo ca cb _ h).mono ?_
  rintro e w2 ⟨po, pc, so, sc, rfl, kT, hb⟩
  clear p0 p1 p2 p3
  replace s3 := s3.up hb
  replace h := h.up hb
  replace g := g.up hb
  have z1 := hb.size
  replace B := Below.thn B hb
  clear hb
  have aI := h.iz.low0 (Nat.le_refl w2.heap.size)
  have aR := h.rd.low0 (Nat.le_refl w2.heap.size)
  have gI := g.low0 (Nat.le_refl w2.heap.size)
  have kI := kT.iz.low0 (Nat.le_refl w2.heap.size)
  have kc := kT.c1
  clear h g kT
  go_upto_region 4 with fail
  have hb := below_alloc w2 (.cells #[.slice po ks.length pc, .int .i64 t, .int .i64 n, .slice so xs.length sc] 43)
  have sU := S4.new w2 (.slice po ks.length pc) (.int .i64 t) (.int .i64 n) (.slice so xs.length sc)
  have hs3' : w.heap.size < w2.heap.size := Nat.lt_of_lt_of_le hs3 z1
  clear hs3 z1
  replace aI := aI.up hb
  replace aR := aR.up hb
  replace gI := gI.up hb
  replace kI := kI.up hb
  replace s3 := s3.up hb
  replace B := Below.thn B hb
  clear hb
  have zW : w2.heap.size + 1 ≤ (w2.alloc (.cells #[.slice po ks.length pc, .int .i64 t, .int .i64 n, .slice so xs.length sc] 43)).heap.size := by simp
  generalize w2.alloc (.cells #[.slice po ks.length pc, .int .i64 t, .int .i64 n, .slice so xs.length sc] 43) = W2 at *
  obtain ⟨v1, wa, G, cG, wb, hr1, hr2, fI, hcG, hb⟩ := pts_full W2 co cc ps gI.iz gl gc
  have HR1 : Hid (_ = _) := hr1
  have HR2 : Hid (_ = _) := hr2
  clear hr1 hr2
  go_upto_region 6 with (first
    | (at_builtin; refine wpList_append_runT rfl (.tmp 33) (.tmp 34) 23 rfl rfl _ _ rfl rfl _ _ (show _ = _ from HR1) ?_)
    | (at_builtin; refine wpList_append_runT rfl (.tmp 35) (.tmp 36) 23 rfl rfl _ _ rfl rfl _ _ (show _ = _ from HR2) ?_)
    | fail)
  clear HR1 HR2
  have zb := hb.size
  replace aI := aI.up hb
  replace aR := aR.up hb
  replace gI := gI.up hb
  replace kI := kI.up hb
  replace s3 := s3.up hb
  replace sU := sU.up hb
  replace B := Below.thn B hb
  clear hb
  obtain ⟨v3, wc, G2, cG2, wd, hr1, hbc, hr2, rI, hcG2, hb⟩ := words_full wb bo cb xs aR.rd l2 k2
  have HR1 : Hid (_ = _) := hr1
  have HR2 : Hid (_ = _) := hr2
  clear hr1 hr2
  have hzd := hb.size
  obtain ⟨p0, p1, p2, p3⟩ := (s3.alloc (.cells #[] 68)).cells
  obtain ⟨x0, x1, x2, x3⟩ := (s3.up hb).cells
  obtain ⟨y0, y1, y2, y3⟩ := (sU.up hb).free
  obtain ⟨u0, u1, u2, u3⟩ := (sU.up hb).cells
  go_upto_region 8 with (first
    | (at_builtin; refine wpList_append_runT rfl (.tmp 42) (.tmp 45) 39 rfl rfl _ _ rfl rfl _ _ (show _ = _ from HR1) ?_)
    | (at_builtin; refine wpList_append_runT rfl (.tmp 46) (.tmp 47) 39 rfl rfl _ _ rfl rfl _ _ (show _ = _ from HR2) ?_)
    | fail)
  clear HR1 HR2 p0 p1 p2 p3 x0 x1 x2 x3 y0 y1 y2 y3 u0 u1 u2 u3 hbc
  replace aI := aI.up hb
  replace aR := aR.up hb
  replace gI := gI.up hb
  replace kI := kI.up hb
  replace fI := fI.up hb
  replace s3 := s3.up hb
  replace sU := sU.up hb
  replace B := Below.thn B hb
  clear hb
  have hB : ButS (· = w2.heap.size) wd (wd.setCell ⟨w2.heap.size, 3, none⟩ (.slice (some ⟨G2, 0, none⟩) xs.length cG2)) := ButS.set ⟨w2.heap.size, 3, none⟩ _
  replace B : Below w.heap.size w (wd.setCell ⟨w2.heap.size, 3, none⟩ (.slice (some ⟨G2, 0, none⟩) xs.length cG2)) := B.setCell (Nat.le_of_lt hs3') _
  replace aI := aI.but hB (fun b h1 h2 e => by omega)
  replace aR := aR.but hB (fun b h1 h2 e => by omega)
  replace gI := gI.but hB (fun b h1 h2 e => by omega)
  replace kI := kI.but hB (fun b h1 h2 e => by omega)
  replace fI := fI.but hB (fun b h1 h2 e => by omega)
  replace rI := rI.but hB (fun b h1 h2 e => by omega)
  replace s3 := s3.but hB (fun e => by omega)
  replace sU := s4_last sU (.slice (some ⟨G2, 0, none⟩) xs.length cG2)
  have z8 := hB.size
  clear hB
  generalize (wd.setCell ⟨w2.heap.size, 3, none⟩ (.slice (some ⟨G2, 0, none⟩) xs.length cG2)) = W8 at *
  obtain ⟨q0, q1, q2, q3⟩ := sU.cells
  go_wp2_with fail
  refine (c7 (some ⟨G, 0, none⟩) cG po (some ⟨G2, 0, none⟩) pc cG2 _ (⟨kI.iz, rI.rd.front, l1, l2, kc, fun h => by cases h⟩ : TbW _ ks xs po (some ⟨G2, 0, none⟩) pc cG2) fI.iz.front kc).mono ?_
  rintro e w9 ⟨vap, vaq, vas, vac, rfl, hO, hf, hb⟩
  have zw9 := hb.size
  have aW := (own_izL hO rfl).2
  have aV := (fresh_own hf hX2m).2
  clear hO hf
  clear q0 q1 q2 q3
  replace aI := aI.up hb
  replace aR := aR.up hb
  replace gI := gI.up hb
  replace kI := kI.up hb
  replace fI := fI.up hb
  replace rI := rI.up hb
  replace s3 := s3.up hb
  replace sU := sU.up hb
  replace B := Below.thn B hb
  clear hb
  have hb := below_alloc w9 (.cells #[.slice vap K2.length vaq, .int .i64 T2, .int .i64 N2, .slice vas X2.length vac] 43)
  have zw9a : w9.heap.size + 1 ≤ (w9.alloc (.cells #[.slice vap K2.length vaq, .int .i64 T2, .int .i64 N2, .slice vas X2.length vac] 43)).heap.size := by simp
  replace aI := aI.up hb
  replace aR := aR.up hb
  replace gI := gI.up hb
  replace kI := kI.up hb
  replace fI := fI.up hb
  replace rI := rI.up hb
  replace aW := aW.up hb
  replace aV := aV.up hb
  replace s3 := s3.up hb
  replace sU := sU.up hb
  replace B := Below.thn B hb
  clear hb
  have sA := S4.new w9 (.slice vap K2.length vaq) (.int .i64 T2) (.int .i64 N2) (.slice vas X2.length vac)
  obtain ⟨q0, q1, q2, q3⟩ := sU.cells
  go_wp2_with fail
  refine (c7 (some ⟨G, 0, none⟩) cG po (some ⟨G2, 0, none⟩) pc cG2 _ (⟨kI.iz, rI.rd.front, l1, l2, kc, fun h => by cases h⟩ : TbW _ ks xs po (some ⟨G2, 0, none⟩) pc cG2) fI.iz.front kc).mono ?_
  rintro e w10 ⟨vbp, vbq, vbs, vbc, rfl, hO, hf, hb⟩
  have zw10 := hb.size
  have bI := (own_izL hO rfl).1
  have bR := (fresh_own hf hX2m).1
  clear hO hf
  clear q0 q1 q2 q3
  replace aI := aI.up hb
  replace aR := aR.up hb
  replace gI := gI.up hb
  replace kI := kI.up hb
  replace fI := fI.up hb
  replace rI := rI.up hb
  replace aW := aW.up hb
  replace aV := aV.up hb
  replace s3 := s3.up hb
  replace sU := sU.up hb
  replace sA := sA.up hb
  replace B := Below.thn B hb
  clear hb
  have hb := below_alloc w10 (.cells #[.slice vbp K2.length vbq, .int .i64 T2, .int .i64 N2, .slice vbs X2.length vbc] 43)
  have zw10a : w10.heap.size + 1 ≤ (w10.alloc (.cells #[.slice vbp K2.length vbq, .int .i64 T2, .int .i64 N2, .slice vbs X2.length vbc] 43)).heap.size := by simp
  replace aI := aI.up hb
  replace aR := aR.up hb
  replace gI := gI.up hb
  replace kI := kI.up hb
  replace fI := fI.up hb
  replace rI := rI.up hb
  replace aW := aW.up hb
  replace aV := aV.up hb
  replace bI := bI.up hb
  replace bR := bR.up hb
  replace s3 := s3.up hb
  replace sU := sU.up hb
  replace sA := sA.up hb
  replace B := Below.thn B hb
  clear hb
  have sB := S4.new w10 (.slice vbp K2.length vbq) (.int .i64 T2) (.int .i64 N2) (.slice vbs X2.length vbc)
  obtain ⟨q0, q1, q2, q3⟩ := sU.cells
  go_wp2_with fail
  refine (cN po pc _ kI.iz kc).mono ?_
  rintro e w11 ⟨vcp, vcq, vcs, vcc, rfl, hO, hf, hb⟩
  have zw11 := hb.size
  have cW := (own_izL hO rfl).2
  clear hO hf
  clear q0 q1 q2 q3
  replace aI := aI.up hb
  replace aR := aR.up hb
  replace gI := gI.up hb
  replace kI := kI.up hb
  replace fI := fI.up hb
  replace rI := rI.up hb
  replace aW := aW.up hb
  replace aV := aV.up hb
  replace bI := bI.up hb
  replace bR := bR.up hb
  replace s3 := s3.up hb
  replace sU := sU.up hb
  replace sA := sA.up hb
  replace sB := sB.up hb
  replace B := Below.thn B hb
  clear hb
  have hb := below_alloc w11 (.cells #[.slice vcp K3.length vcq, .int .i64 T3, .int .i64 N3, .slice vcs X3.length vcc] 43)
  have zw11a : w11.heap.size + 1 ≤ (w11.alloc (.cells #[.slice vcp K3.length vcq, .int .i64 T3, .int .i64 N3, .slice vcs X3.length vcc] 43)).heap.size := by simp
  replace aI := aI.up hb
  replace aR := aR.up hb
  replace gI := gI.up hb
  replace kI := kI.up hb
  replace fI := fI.up hb
  replace rI := rI.up hb
  replace aW := aW.up hb
  replace aV := aV.up hb
  replace bI := bI.up hb
  replace bR := bR.up hb
  replace cW := cW.up hb
  replace s3 := s3.up hb
  replace sU := sU.up hb
  replace sA := sA.up hb
  replace sB := sB.up hb
  replace B := Below.thn B hb
  clear hb
  have sC := S4.new w11 (.slice vcp K3.length vcq) (.int .i64 T3) (.int .i64 N3) (.slice vcs X3.length vcc)
  obtain ⟨q0, q1, q2, q3⟩ := sU.cells
  go_wp2_with fail
  refine (cT po pc _ kI.iz).mono ?_
  rintro e w12 ⟨vd, rfl, hO, hb⟩
  have zw12 := hb.size
  obtain ⟨dp, dq, rfl, _, _, _⟩ := own_iz hO rfl
  have dW := (own_izL hO rfl).2
  clear hO
  clear q0 q1 q2 q3
  replace aI := aI.up hb
  replace aR := aR.up hb
  replace gI := gI.up hb
  replace kI := kI.up hb
  replace fI := fI.up hb
  replace rI := rI.up hb
  replace aW := aW.up hb
  replace aV := aV.up hb
  replace bI := bI.up hb
  replace bR := bR.up hb
  replace cW := cW.up hb
  replace s3 := s3.up hb
  replace sU := sU.up hb
  replace sA := sA.up hb
  replace sB := sB.up hb
  replace sC := sC.up hb
  replace B := Below.thn B hb
  clear hb
  obtain ⟨q0, q1, q2, q3⟩ := sU.cells
  go_wp2_with fail
  refine (cT po pc _ kI.iz).mono ?_
  rintro e w13 ⟨ve, rfl, hO, hb⟩
  have zw13 := hb.size
  obtain ⟨ep, eq, rfl, _, _, _⟩ := own_iz hO rfl
  have eI := (own_izL hO rfl).1
  clear hO
  clear q0 q1 q2 q3
  replace aI := aI.up hb
  replace aR := aR.up hb
  replace gI := gI.up hb
  replace kI := kI.up hb
  replace fI := fI.up hb
  replace rI := rI.up hb
  replace aW := aW.up hb
  replace aV := aV.up hb
  replace bI := bI.up hb
  replace bR := bR.up hb
  replace cW := cW.up hb
  replace dW := dW.up hb
  replace s3 := s3.up hb
  replace sU := sU.up hb
  replace sA := sA.up hb
  replace sB := sB.up hb
  replace sC := sC.up hb
  replace B := Below.thn B hb
  clear hb
  clear c7 cN cT
  go_wp2
  go_loopw [21] (fun i wr1 => ∃ k : Nat, k ≤ X2.length ∧ i = .int .i64 k ∧ ButS (fun b => (Value.slice vas X2.length vac).ownBlock = some b) w13 wr1 ∧ Wr wr1 68 (Value.slice vas X2.length vac) X2.length W8.heap.size w9.heap.size) (fun i _ => X2.length - (intOf i).toNat)
  case atStart => exact ⟨0, Nat.zero_le _, rfl, ButS.refl _ _, aV⟩
  case round =>
    obtain ⟨k, hk, rfl, hB, hW⟩ := hrel
    rename World => wr1
    obtain ⟨x0, x1, x2, x3⟩ := (sA.kept aV (by decide) hB).cells
    by_cases hlt : k < X2.length
    · obtain ⟨g, hg⟩ := hW.place hlt
      subst hg
      obtain ⟨⟨y, hy⟩, hfr, hW2, hB2⟩ := hW.at hlt (.int .u64 99)
      have hB3 := hB.trans hB2
      clear hB hW hB2 aI aR gI kI fI rI aW aV bI bR cW dW eI s3 sU sA sB sC
      go_wp2
      go_roundw
      case rel => exact ⟨k + 1, by omega, by go_num, hB3, hW2⟩
      case measure => simp [intOf]; omega
    · obtain rfl : k = X2.length := by omega
      replace aW := aW.kept aV (by decide) hB
      replace aI := aI.but hB (fun b h1 h2 e => by have := aV.loc b e; omega)
      replace aR := aR.but hB (fun b h1 h2 e => by have := aV.loc b e; omega)
      replace gI := gI.but hB (fun b h1 h2 e => by have := aV.loc b e; omega)
      replace kI := kI.but hB (fun b h1 h2 e => by have := aV.loc b e; omega)
      replace fI := fI.but hB (fun b h1 h2 e => by have := aV.loc b e; omega)
      replace rI := rI.but hB (fun b h1 h2 e => by have := aV.loc b e; omega)
      replace bI := bI.but hB (fun b h1 h2 e => by have := aV.loc b e; omega)
      replace bR := bR.but hB (fun b h1 h2 e => by have := aV.loc b e; omega)
      replace cW := cW.but hB (fun b h1 h2 e => by have := aV.loc b e; omega)
      replace dW := dW.but hB (fun b h1 h2 e => by have := aV.loc b e; omega)
      replace eI := eI.but hB (fun b h1 h2 e => by have := aV.loc b e; omega)
      replace s3 := s3.but hB (fun e => by have := aV.loc _ e; omega)
      replace sU := sU.but hB (fun e => by have := aV.loc _ e; omega)
      replace sA := sA.but hB (fun e => by have := aV.loc _ e; omega)
      replace sB := sB.but hB (fun e => by have := aV.loc _ e; omega)
      replace sC := sC.but hB (fun e => by have := aV.loc _ e; omega)
      replace B := Below.trans B (hB.toBelow (B := w.heap.size) B.size (fun b e => by have := aV.loc b e; omega))
      replace aV := hW
      clear hB hW
      go_wp2
      clear x0 x1 x2 x3
      go_loopw [22] (fun i wr2 => ∃ k : Nat, k ≤ K2.length ∧ i = .int .i64 k ∧ ButS (fun b => (Value.slice vap K2.length vaq).ownBlock = some b) wr1 wr2 ∧ Wr wr2 38 (Value.slice vap K2.length vaq) K2.length W8.heap.size w9.heap.size) (fun i _ => K2.length - (intOf i).toNat)
      case atStart => exact ⟨0, Nat.zero_le _, rfl, ButS.refl _ _, aW⟩
      case round =>
        obtain ⟨k, hk, rfl, hB, hW⟩ := hrel
        rename World => wr2
        obtain ⟨x0, x1, x2, x3⟩ := (sA.kept aW (by decide) hB).cells
        by_cases hlt : k < K2.length
        · obtain ⟨g, hg⟩ := hW.place hlt
          subst hg
          obtain ⟨⟨y, hy⟩, hfr, hW2, hB2⟩ := hW.at hlt (.int .i64 98)
          have hB3 := hB.trans hB2
          clear hB hW hB2 aI aR gI kI fI rI aW aV bI bR cW dW eI s3 sU sA sB sC
          go_wp2
          go_roundw
          case rel => exact ⟨k + 1, by omega, by go_num, hB3, hW2⟩
          case measure => simp [intOf]; omega
        · obtain rfl : k = K2.length := by omega
          replace aV := aV.kept aW (by decide) hB
          replace aI := aI.but hB (fun b h1 h2 e => by have := aW.loc b e; omega)
          replace aR := aR.but hB (fun b h1 h2 e => by have := aW.loc b e; omega)
          replace gI := gI.but hB (fun b h1 h2 e => by have := aW.loc b e; omega)
          replace kI := kI.but hB (fun b h1 h2 e => by have := aW.loc b e; omega)
          replace fI := fI.but hB (fun b h1 h2 e => by have := aW.loc b e; omega)
          replace rI := rI.but hB (fun b h1 h2 e => by have := aW.loc b e; omega)
          replace bI := bI.but hB (fun b h1 h2 e => by have := aW.loc b e; omega)
          replace bR := bR.but hB (fun b h1 h2 e => by have := aW.loc b e; omega)
          replace cW := cW.but hB (fun b h1 h2 e => by have := aW.loc b e; omega)
          replace dW := dW.but hB (fun b h1 h2 e => by have := aW.loc b e; omega)
          replace eI := eI.but hB (fun b h1 h2 e => by have := aW.loc b e; omega)
          replace s3 := s3.but hB (fun e => by have := aW.loc _ e; omega)
          replace sU := sU.but hB (fun e => by have := aW.loc _ e; omega)
          replace sA := sA.but hB (fun e => by have := aW.loc _ e; omega)
          replace sB := sB.but hB (fun e => by have := aW.loc _ e; omega)
          replace sC := sC.but hB (fun e => by have := aW.loc _ e; omega)
          replace B := Below.trans B (hB.toBelow (B := w.heap.size) B.size (fun b e => by have := aW.loc b e; omega))
          replace aW := hW
          clear hB hW
          clear aW
          go_wp2
          clear x0 x1 x2 x3
          go_loopw [23] (fun i wr3 => ∃ k : Nat, k ≤ K3.length ∧ i = .int .i64 k ∧ ButS (fun b => (Value.slice vcp K3.length vcq).ownBlock = some b) wr2 wr3 ∧ Wr wr3 38 (Value.slice vcp K3.length vcq) K3.length (w10.alloc (.cells #[.slice vbp K2.length vbq, .int .i64 T2, .int .i64 N2, .slice vbs X2.length vbc] 43)).heap.size w11.heap.size) (fun i _ => K3.length - (intOf i).toNat)
          case atStart => exact ⟨0, Nat.zero_le _, rfl, ButS.refl _ _, cW⟩
          case round =>
            obtain ⟨k, hk, rfl, hB, hW⟩ := hrel
            rename World => wr3
            obtain ⟨u0, u1, u2, u3⟩ := (sC.kept cW (by decide) hB).cells
            by_cases hlt : k < K3.length
            · obtain ⟨g, hg⟩ := hW.place hlt
              subst hg
              obtain ⟨⟨y, hy⟩, hfr, hW2, hB2⟩ := hW.at hlt (.int .i64 97)
              have hB3 := hB.trans hB2
              clear hB hW hB2 aI aR gI kI fI rI aV bI bR cW dW eI s3 sU sA sB sC
              go_wp2
              go_roundw
              case rel => exact ⟨k + 1, by omega, by go_num, hB3, hW2⟩
              case measure => simp [intOf]; omega
            · obtain rfl : k = K3.length := by omega
              replace aI := aI.but hB (fun b h1 h2 e => by have := cW.loc b e; omega)
              replace aR := aR.but hB (fun b h1 h2 e => by have := cW.loc b e; omega)
              replace gI := gI.but hB (fun b h1 h2 e => by have := cW.loc b e; omega)
              replace kI := kI.but hB (fun b h1 h2 e => by have := cW.loc b e; omega)
              replace fI := fI.but hB (fun b h1 h2 e => by have := cW.loc b e; omega)
              replace rI := rI.but hB (fun b h1 h2 e => by have := cW.loc b e; omega)
              replace aV := aV.but hB (fun b h1 h2 e => by have := cW.loc b e; omega)
              replace bI := bI.but hB (fun b h1 h2 e => by have := cW.loc b e; omega)
              replace bR := bR.but hB (fun b h1 h2 e => by have := cW.loc b e; omega)
              replace dW := dW.but hB (fun b h1 h2 e => by have := cW.loc b e; omega)
              replace eI := eI.but hB (fun b h1 h2 e => by have := cW.loc b e; omega)
              replace s3 := s3.but hB (fun e => by have := cW.loc _ e; omega)
              replace sU := sU.but hB (fun e => by have := cW.loc _ e; omega)
              replace sA := sA.but hB (fun e => by have := cW.loc _ e; omega)
              replace sB := sB.but hB (fun e => by have := cW.loc _ e; omega)
              replace sC := sC.but hB (fun e => by have := cW.loc _ e; omega)
              replace B := Below.trans B (hB.toBelow (B := w.heap.size) B.size (fun b e => by have := cW.loc b e; omega))
              replace cW := hW
              clear hB hW
              clear cW sC
              go_wp2
              clear u0 u1 u2 u3
              go_loopw [24] (fun i wr4 => ∃ k : Nat, k ≤ Y.length ∧ i = .int .i64 k ∧ ButS (fun b => (Value.slice dp Y.length dq).ownBlock = some b) wr3 wr4 ∧ Wr wr4 54 (Value.slice dp Y.length dq) Y.length (w11.alloc (.cells #[.slice vcp K3.length vcq, .int .i64 T3, .int .i64 N3, .slice vcs X3.length vcc] 43)).heap.size w12.heap.size) (fun i _ => Y.length - (intOf i).toNat)
              case atStart => exact ⟨0, Nat.zero_le _, rfl, ButS.refl _ _, dW⟩
              case round =>
                obtain ⟨k, hk, rfl, hB, hW⟩ := hrel
                rename World => wr4
                by_cases hlt : k < Y.length
                · obtain ⟨g, hg⟩ := hW.place hlt
                  subst hg
                  obtain ⟨⟨y, hy⟩, hfr, hW2, hB2⟩ := hW.at hlt (.int .i64 96)
                  have hB3 := hB.trans hB2
                  clear hB hW hB2 aI aR gI kI fI rI aV bI bR dW eI s3 sU sA sB
                  go_wp2
                  go_roundw
                  case rel => exact ⟨k + 1, by omega, by go_num, hB3, hW2⟩
                  case measure => simp [intOf]; omega
                · obtain rfl : k = Y.length := by omega
                  replace aI := aI.but hB (fun b h1 h2 e => by have := dW.loc b e; omega)
                  replace aR := aR.but hB (fun b h1 h2 e => by have := dW.loc b e; omega)
                  replace gI := gI.but hB (fun b h1 h2 e => by have := dW.loc b e; omega)
                  replace kI := kI.but hB (fun b h1 h2 e => by have := dW.loc b e; omega)
                  replace fI := fI.but hB (fun b h1 h2 e => by have := dW.loc b e; omega)
                  replace rI := rI.but hB (fun b h1 h2 e => by have := dW.loc b e; omega)
                  replace aV := aV.but hB (fun b h1 h2 e => by have := dW.loc b e; omega)
                  replace bI := bI.but hB (fun b h1 h2 e => by have := dW.loc b e; omega)
                  replace bR := bR.but hB (fun b h1 h2 e => by have := dW.loc b e; omega)
                  replace eI := eI.but hB (fun b h1 h2 e => by have := dW.loc b e; omega)
                  replace s3 := s3.but hB (fun e => by have := dW.loc _ e; omega)
                  replace sU := sU.but hB (fun e => by have := dW.loc _ e; omega)
                  replace sA := sA.but hB (fun e => by have := dW.loc _ e; omega)
                  replace sB := sB.but hB (fun e => by have := dW.loc _ e; omega)
                  replace B := Below.trans B (hB.toBelow (B := w.heap.size) B.size (fun b e => by have := dW.loc b e; omega))
                  replace dW := hW
                  clear hB hW
                  clear dW
                  obtain ⟨vs, hvs⟩ := aV.own
                  have hb := below_alloc wr4 (.cells #[.int .u64 95] 68)
                  obtain ⟨i0, hi, hz0, hz1, hz2⟩ := info_parts Try.infoW
                  obtain ⟨v', wq, hr, ho, hg, _, _⟩ := run_append_own_at (P := Try.prog) (wr4.alloc (.cells #[.int .u64 95] 68)) 0 39 39 68 i0 (.int .u64 0) 1 8 Try.underS hi hz0 hz1 hz2 rfl (by decide) (.slice vas X2.length vac) X2.length vs (owns_up hvs hb) ⟨wr4.heap.size, 0, none⟩ 1 1 [.int .u64 95] rfl (cell_one_new wr4 (.int .u64 95) 68) (by intro u hu; simp at hu; subst hu; rfl) (by unfold maxLen; omega) (by omega) (Nat.zero_le _)
                  have hvq : ∃ gq cq, v' = .slice (some ⟨gq, 0, none⟩) (X2.length + 1) cq := by
                    rcases ho.2 with ⟨_, h0⟩ | ⟨gq, cq, cur, h1, _⟩
                    · omega
                    · exact ⟨gq, cq, h1⟩
                  obtain ⟨gq, cq, rfl⟩ := hvq
                  have hB : ButS (fun b => (Value.slice vas X2.length vac).ownBlock = some b) wr4 wq := (ButS.below hb).trans (ButS.grownBy hg)
                  have sA2 := sA.kept aV (by decide) hB
                  obtain ⟨x0, x1, x2, x3⟩ := sA.cells
                  obtain ⟨r0, r1, r2, r3⟩ := sA2.free
                  obtain ⟨v0, v1', v2, v3'⟩ := sA2.cells
                  have HR : Hid (_ = _) := hr
                  clear hr ho hi hz0 hz1 hz2 hb hvs
                  replace aI := aI.but hB (fun b h1 h2 e => by have := aV.loc b e; omega)
                  replace aR := aR.but hB (fun b h1 h2 e => by have := aV.loc b e; omega)
                  replace gI := gI.but hB (fun b h1 h2 e => by have := aV.loc b e; omega)
                  replace kI := kI.but hB (fun b h1 h2 e => by have := aV.loc b e; omega)
                  replace fI := fI.but hB (fun b h1 h2 e => by have := aV.loc b e; omega)
                  replace rI := rI.but hB (fun b h1 h2 e => by have := aV.loc b e; omega)
                  replace bI := bI.but hB (fun b h1 h2 e => by have := aV.loc b e; omega)
                  replace bR := bR.but hB (fun b h1 h2 e => by have := aV.loc b e; omega)
                  replace eI := eI.but hB (fun b h1 h2 e => by have := aV.loc b e; omega)
                  replace s3 := s3.but hB (fun e => by have := aV.loc _ e; omega)
                  replace sU := sU.but hB (fun e => by have := aV.loc _ e; omega)
                  replace sB := sB.but hB (fun e => by have := aV.loc _ e; omega)
                  replace B := Below.trans B (hB.toBelow (B := w.heap.size) B.size (fun b e => by have := aV.loc b e; omega))
                  clear hB aV sA sA2 hg
                  have hB : ButS (· = w9.heap.size) wq (wq.setCell ⟨w9.heap.size, 3, none⟩ (.slice (some ⟨gq, 0, none⟩) (X2.length + 1) cq)) := ButS.set ⟨w9.heap.size, 3, none⟩ _
                  replace B : Below w.heap.size w (wq.setCell ⟨w9.heap.size, 3, none⟩ (.slice (some ⟨gq, 0, none⟩) (X2.length + 1) cq)) := B.setCell (show w.heap.size ≤ w9.heap.size by omega) _
                  replace aI := aI.but hB (fun b h1 h2 e => by omega)
                  replace aR := aR.but hB (fun b h1 h2 e => by omega)
                  replace gI := gI.but hB (fun b h1 h2 e => by omega)
                  replace kI := kI.but hB (fun b h1 h2 e => by omega)
                  replace fI := fI.but hB (fun b h1 h2 e => by omega)
                  replace rI := rI.but hB (fun b h1 h2 e => by omega)
                  replace bI := bI.but hB (fun b h1 h2 e => by omega)
                  replace bR := bR.but hB (fun b h1 h2 e => by omega)
                  replace eI := eI.but hB (fun b h1 h2 e => by omega)
                  replace s3 := s3.but hB (fun e => by omega)
                  replace sU := sU.but hB (fun e => by omega)
                  replace sB := sB.but hB (fun e => by omega)
                  clear hB
                  obtain ⟨p0, p1, p2, p3⟩ := s3.cells
                  go_wp2_with (first
                    | (at_builtin; refine wpList_append_runT rfl (.tmp 137) (.tmp 138) 39 rfl rfl _ _ rfl rfl _ _ (show _ = _ from HR) ?_)
                    | fail)
                  clear HR x0 x1 x2 x3 r0 r1 r2 r3 v0 v1' v2 v3'
                  refine (c8 _ ⟨aI.iz, aR.rd, l1, l2, k1, k2⟩ gI.iz).mono ?_
                  rintro e w14 ⟨vwp, vwq, vws, vwc, rfl, hO, wR, hb⟩
                  have wI := own_read hO
                  clear hO c8
                  clear p0 p1 p2 p3
                  replace aI := aI.up hb
                  replace aR := aR.up hb
                  replace gI := gI.up hb
                  replace kI := kI.up hb
                  replace fI := fI.up hb
                  replace rI := rI.up hb
                  replace bI := bI.up hb
                  replace bR := bR.up hb
                  replace eI := eI.up hb
                  replace s3 := s3.up hb
                  replace sU := sU.up hb
                  replace sB := sB.up hb
                  replace B := Below.thn B hb
                  clear hb
                  have hb := below_alloc w14 (.cells #[.slice vwp K2.length vwq, .int .i64 T2, .int .i64 N2, .slice vws X2.length vwc] 43)
                  have zw14a : w14.heap.size + 1 ≤ (w14.alloc (.cells #[.slice vwp K2.length vwq, .int .i64 T2, .int .i64 N2, .slice vws X2.length vwc] 43)).heap.size := by simp
                  replace aI := aI.up hb
                  replace aR := aR.up hb
                  replace gI := gI.up hb
                  replace kI := kI.up hb
                  replace fI := fI.up hb
                  replace rI := rI.up hb
                  replace bI := bI.up hb
                  replace bR := bR.up hb
                  replace eI := eI.up hb
                  replace wI := wI.up hb
                  replace wR := wR.up hb
                  replace s3 := s3.up hb
                  replace sU := sU.up hb
                  replace sB := sB.up hb
                  replace B := Below.thn B hb
                  clear hb
                  have sW := S4.new w14 (.slice vwp K2.length vwq) (.int .i64 T2) (.int .i64 N2) (.slice vws X2.length vwc)
                  obtain ⟨p0, p1, p2, p3⟩ := s3.cells
                  go_wp2_with fail
                  refine (cR _ aI.iz).mono ?_
                  rintro e w15 ⟨vy, rfl, hO, hb⟩
                  obtain ⟨yp, yq, rfl, yI, _, _⟩ := own_iz hO rfl
                  clear hO cR
                  clear p0 p1 p2 p3
                  replace aI := aI.up hb
                  replace aR := aR.up hb
                  replace gI := gI.up hb
                  replace kI := kI.up hb
                  replace fI := fI.up hb
                  replace rI := rI.up hb
                  replace bI := bI.up hb
                  replace bR := bR.up hb
                  replace eI := eI.up hb
                  replace wI := wI.up hb
                  replace wR := wR.up hb
                  replace s3 := s3.up hb
                  replace sU := sU.up hb
                  replace sB := sB.up hb
                  replace sW := sW.up hb
                  replace B := Below.thn B hb
                  clear hb
                  obtain ⟨p0, p1, p2, p3⟩ := s3.cells
                  obtain ⟨q0, q1, q2, q3⟩ := sU.cells
                  obtain ⟨y0, y1, y2, y3⟩ := sB.cells
                  obtain ⟨x0, x1, x2, x3⟩ := sW.cells
                  go_wp2_with fail
                  refine (rsame_one ks t n xs po (some ⟨G2, 0, none⟩) ao bo pc cG2 ca cb _ kI.iz rI.rd.front aI.iz aR.rd l1 l2).mono ?_
                  rintro e w16 ⟨rfl, hb⟩
                  clear p0 p1 p2 p3
                  clear q0 q1 q2 q3
                  clear y0 y1 y2 y3
                  clear x0 x1 x2 x3
                  replace aI := aI.up hb
                  replace aR := aR.up hb
                  replace gI := gI.up hb
                  replace kI := kI.up hb
                  replace fI := fI.up hb
                  replace rI := rI.up hb
                  replace bI := bI.up hb
                  replace bR := bR.up hb
                  replace eI := eI.up hb
                  replace wI := wI.up hb
                  replace wR := wR.up hb
                  replace yI := yI.up hb
                  replace s3 := s3.up hb
                  replace sU := sU.up hb
                  replace sB := sB.up hb
                  replace sW := sW.up hb
                  replace B := Below.thn B hb
                  clear hb
                  obtain ⟨p0, p1, p2, p3⟩ := s3.cells
                  obtain ⟨y0, y1, y2, y3⟩ := sB.cells
                  obtain ⟨x0, x1, x2, x3⟩ := sW.cells
                  go_wp2_with fail
                  refine (same_self ps (some ⟨G, 0, none⟩) co cG cc _ fI.iz.front gI.iz gl).mono ?_
                  rintro e w17 ⟨rfl, hb⟩
                  clear p0 p1 p2 p3
                  clear y0 y1 y2 y3
                  clear x0 x1 x2 x3
                  replace aI := aI.up hb
                  replace aR := aR.up hb
                  replace gI := gI.up hb
                  replace kI := kI.up hb
                  replace fI := fI.up hb
                  replace rI := rI.up hb
                  replace bI := bI.up hb
                  replace bR := bR.up hb
                  replace eI := eI.up hb
                  replace wI := wI.up hb
                  replace wR := wR.up hb
                  replace yI := yI.up hb
                  replace s3 := s3.up hb
                  replace sU := sU.up hb
                  replace sB := sB.up hb
                  replace sW := sW.up hb
                  replace B := Below.thn B hb
                  clear hb
                  obtain ⟨p0, p1, p2, p3⟩ := s3.cells
                  obtain ⟨y0, y1, y2, y3⟩ := sB.cells
                  obtain ⟨x0, x1, x2, x3⟩ := sW.cells
                  have hf71 := fI.iz.last
                  have hf72 := rI.rd.last
                  clear gI fI
                  go_wp2_with fail
                  refine (rsame_one K2 T2 N2 X2 vbp vbs vwp vws vbq vbc vwq vwc _ bI.iz bR.rd wI wR hK2 hX2).mono ?_
                  rintro e w18 ⟨rfl, hb⟩
                  clear hf71 hf72
                  clear p0 p1 p2 p3
                  clear y0 y1 y2 y3
                  clear x0 x1 x2 x3
                  replace eI := eI.up hb
                  replace yI := yI.up hb
                  replace B := Below.thn B hb
                  clear hb
                  go_wp2_with fail
                  refine (same_self Y ep yp eq yq _ eI.iz yI hY).mono ?_
                  rintro e w19 ⟨rfl, hb⟩
                  replace B := Below.thn B hb
                  clear hb eI yI
                  go_wp2
                  go_ret
                  exact ⟨rfl, B⟩
end Go.Proofs.Ytiikkbofcccjfaa
