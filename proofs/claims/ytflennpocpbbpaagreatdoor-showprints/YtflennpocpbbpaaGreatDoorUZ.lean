/-
  4 texts in one: what each proves stands at its head.
-/
import Derived.Test.YtflennpocpbbpaaGreatDoorUY
import Derived.Deep.RegionHeld3
import Derived.OwnWalk
import Derived.Test.YtflennpocpbbpaaGreatDoorUB
import Derived.Test.YtflennpocpbbpaaGreatDoorDg
/-
  The walks of the document's printer: letters, levels, signs, parts, lists.
-/
namespace Go.Proofs.YtflennpocpbbpaaGreatDoor
open Go.RowKit
set_option maxRecDepth 100000

theorem rletter_w {ty : Int} (ht : ty = 1 ∨ ty = 2 ∨ ty = 3) (w : World) : Calls Tryz.prog 42 #[.int .i64 ty] w fun e w' => e = .returned (.string (bs (letT ty))) ∧ w' = w := by
  rcases ht with rfl | rfl | rfl
  all_goals
    go_enter Tryz.func42, Tryz.ntmps42
    go_wp2
    go_ret
    exact ⟨rfl, rfl⟩
/-- The sign with its blanks; nothing, where there is none. -/
def rsT (op : Int) : List UInt8 := if signT op = [] then [] else [32] ++ signT op ++ [32]
theorem rsign_w {op : Int} (ho : OpIn op) (w : World) : Calls Tryz.prog 38 #[.int .i64 op] w fun e w' =>
    e = .returned (.tuple #[.string (bs (rsT op)), .int .i64 (if signT op = [] then 0 else loL op), .int .i64 (if signT op = [] then 0 else roL op)]) ∧ w' = w := by
  unfold OpIn at ho
  rcases ho with rfl | rfl | rfl | rfl | rfl | rfl | rfl | rfl | rfl | rfl | rfl | rfl | rfl | rfl | rfl | rfl | rfl | rfl | rfl | rfl | rfl | rfl
  all_goals
    go_enter Tryz.func38, Tryz.ntmps38
    go_wp2
    go_ret3
    exact ⟨rfl, rfl⟩
theorem rlevel_w {w : World} {A : Nat → Prop} {op : Int} (ho : OpIn op) {name tail : List UInt8} {ty p q : Int} {xs : List Ex} {pos : Nat} {es : List Value} (hx : ExW w A (.mk op name tail ty p q xs pos) es) :
    Calls Tryz.prog 59 #[.agg es.toArray] w fun e w' => e = .returned (.int .i64 (lvl op)) ∧ Below w.heap.size w w' := by
  cases hx with
  | mk hl =>
    rename_i ao c
    have hb1 := fun o => below_alloc w o
    clear hl
    unfold OpIn at ho
    rcases ho with rfl | rfl | rfl | rfl | rfl | rfl | rfl | rfl | rfl | rfl | rfl | rfl | rfl | rfl | rfl | rfl | rfl | rfl | rfl | rfl | rfl | rfl
    all_goals
      go_enter Tryz.func59, Tryz.ntmps59
      go_wp2
      go_ret
      exact ⟨rfl, hb1 _⟩

/-- What the document's printer answers of an expression. -/
def RxC (e : Ex) : Prop := ∀ (w : World) (A : Nat → Prop) (es : List Value), ExW w A e es → Calls Tryz.prog 23 #[.agg es.toArray] w fun r w' => r = .returned (.string (bs (shE e))) ∧ Below w.heap.size w w'
/-- .. of a part. -/
def RpC (e : Ex) (xs : List Ex) : Prop := ∀ (w : World) (A : Nat → Prop) (es : List Value), ExW w A e es → ∀ (k : Nat) (n : Int), k < xs.length →
  Calls Tryz.prog 39 #[.agg es.toArray, .int .i64 k, .int .i64 n] w fun r w' => r = .returned (.string (bs (pt (shL xs) k n))) ∧ Below w.heap.size w w'

set_option maxHeartbeats 4000000 in
theorem rpart_w {op : Int} {name tail : List UInt8} {ty p q : Int} {xs : List Ex} {pos : Nat} (hln : ∀ k, k < xs.length → (shE (xs.getD k ed)).length ≤ 140737488355328) (hop : ∀ k, k < xs.length → OpIn (xs.getD k ed).op) (hp : ∀ k, k < xs.length → RxC (xs.getD k ed)) : RpC (.mk op name tail ty p q xs pos) xs := by
  intro w A es hx k n hk
  rw [pt_at n hk]
  have hxc := hp k hk
  have hoc := hop k hk
  have hsl := hln k hk
  cases hx with
  | mk hl =>
    rename_i ao c
    obtain ⟨B0, off, rfl⟩ := hl.place (by intro e; simp [e] at hk)
    have hb1 := below_alloc w (.cells #[.int .i64 op, .string (bs name), .string (bs tail), .int .i64 ty, .complex .f64 (fl p) (fl q), .slice (some ⟨B0, off, none⟩) xs.length c, .int .i64 pos] 53)
    have hE1 := Bk.new w 53 #[.int .i64 op, .string (bs name), .string (bs tail), .int .i64 ty, .complex .f64 (fl p) (fl q), .slice (some ⟨B0, off, none⟩) xs.length c, .int .i64 pos]
    generalize hW : w.alloc (.cells #[.int .i64 op, .string (bs name), .string (bs tail), .int .i64 ty, .complex .f64 (fl p) (fl q), .slice (some ⟨B0, off, none⟩) xs.length c, .int .i64 pos] 53) = W1 at *
    obtain ⟨us, hu, hxu⟩ := (hl.up hb1).at k hk
    generalize hy : xs.getD k ed = Y at *
    obtain ⟨opY, nY, tY, tyY, pY, qY, xsY, posY⟩ := Y
    have hop2 : (Ex.mk opY nY tY tyY pY qY xsY posY).op = opY := rfl
    rw [hop2] at hoc ⊢
    clear hop2
    have m1 := hxc W1 A us hxu
    have HXU : Hid (ExW W1 A (.mk opY nY tY tyY pY qY xsY posY) us) := hxu
    have HB1 : Hid (Below w.heap.size w W1) := hb1
    have HE1 : Hid (Bk W1 w.heap.size 53 [.int .i64 op, .string (bs name), .string (bs tail), .int .i64 ty, .complex .f64 (fl p) (fl q), .slice (some ⟨B0, off, none⟩) xs.length c, .int .i64 pos]) := hE1
    have HU : Hid (W1.rangeAt B0 (off + k * 7) us) := hu
    have HO : Hid (OpIn opY) := hoc
    have c5 : W1.cell? ⟨w.heap.size, 5, none⟩ = some (.slice (some ⟨B0, off, none⟩) xs.length c) := hE1.cell 5
    have hkl : (k : Int) < xs.length := by omega
    have hkn : ¬ ((xs.length : Int) ≤ k) := by omega
    have hus := hxu.len
    obtain ⟨u0, u1, u2, u3, u4, u5, u6, rfl⟩ := list7 hus
    clear hl hb1 hE1 hu hxu hxc hoc hus hop hp hy hln
    go_enter Tryz.func39, Tryz.ntmps39
    go_upto_region 1 with fail
    first | rw [hW] | skip
    clear hW
    go_wp2_with (first
      | refine wpList_loadN rfl 53 (.tmp 16) rfl B0 (off + k * 7) rfl [u0, u1, u2, u3, u4, u5, u6] _ HU.out Tryz.underE Tryz.infoE ?_)
    refine m1.mono ?_
    rintro r w2 ⟨rfl, hb2⟩
    have hxu2 := HXU.out.up hb2
    have hu2 : w2.rangeAt B0 (off + k * 7) [u0, u1, u2, u3, u4, u5, u6] := range_keep HU.out (by simp) fun hlt => hb2.block _ hlt
    have d5 : w2.cell? ⟨w.heap.size, 5, none⟩ = some (.slice (some ⟨B0, off, none⟩) xs.length c) := (HE1.out.up hb2).cell 5
    have m2 := rlevel_w HO.out hxu2
    have HB2 : Hid (Below w.heap.size w w2) := Below.thn HB1.out hb2
    clear m1 hb2 c5 hxu2
    generalize hs : shE (.mk opY nY tY tyY pY qY xsY posY) = s at *
    go_wp2_with (first
      | refine wpList_loadN rfl 53 (.tmp 22) rfl B0 (off + k * 7) rfl [u0, u1, u2, u3, u4, u5, u6] _ hu2 Tryz.underE Tryz.infoE ?_)
    refine m2.mono ?_
    rintro r w3 ⟨rfl, hb3⟩
    have HB3 : Hid (Below w.heap.size w w3) := Below.thn HB2.out hb3
    clear m2 hb3 d5 hu2
    generalize hlv : lvl opY = lv at *
    have HS : Hid (shE (.mk opY nY tY tyY pY qY xsY posY) = s) := hs
    have HV : Hid (lvl opY = lv) := hlv
    clear hs hlv
    by_cases hlt : lv < n
    · have HLT : Hid (lv < n) := hlt
      have z1 : 1 + (bs s).size ≤ 9223372036854775807 := by rw [bs_size]; omega
      have z2 : 1 + (bs s).size + 1 ≤ 9223372036854775807 := by rw [bs_size]; omega
      have z3 : ((⟨#[40]⟩ : ByteArray) ++ bs s).size = 1 + (bs s).size := by simp [ByteArray.size_append]; rfl
      go_wp2_with fail
      go_ret
      refine ⟨?_, HB3.out⟩
      rw [HS.out, HV.out]
      unfold brq
      rw [if_pos HLT.out]
      have e : (⟨#[40]⟩ : ByteArray) ++ bs s ++ ⟨#[41]⟩ = bs ([40] ++ s ++ [41]) := by show bs [40] ++ bs s ++ bs [41] = _; rw [bs_app, bs_app]
      rw [← e]
      rfl
    · have hnl : n ≤ lv := by omega
      have HLT : Hid (n ≤ lv) := hnl
      clear hlt
      go_wp2_with fail
      go_ret
      refine ⟨?_, HB3.out⟩
      rw [HS.out, HV.out]
      unfold brq
      rw [if_neg (Int.not_lt.2 HLT.out)]
      rfl

theorem cmK_mono (xs : List Ex) {k : Nat} (hk : k < xs.length) : (cmK xs k).length + (if k = 0 then 0 else 2) + (shE (xs.getD k ed)).length ≤ (cmK xs xs.length).length := by
  have h1 : (cmK xs (k + 1)).length ≤ (cmK xs xs.length).length := by
    have : ∀ d, k + 1 + d ≤ xs.length → (cmK xs (k + 1)).length ≤ (cmK xs (k + 1 + d)).length := by
      intro d
      induction d with
      | zero => intro _; exact Nat.le_refl _
      | succ d ih =>
        intro h
        have e := cmK_succ (xs := xs) (k := k + 1 + d) (by omega)
        have := ih (by omega)
        rw [show k + 1 + (d + 1) = k + 1 + d + 1 by omega, e, List.length_append]
        omega
    have := this (xs.length - (k + 1)) (by omega)
    rwa [show k + 1 + (xs.length - (k + 1)) = xs.length by omega] at this
  rw [cmK_succ hk, List.length_append, List.length_append] at h1
  by_cases e : k = 0
  · rw [if_pos e] at h1 ⊢; simp only [List.length_nil] at h1; omega
  · rw [if_neg e] at h1 ⊢; simp only [List.length_cons, List.length_nil] at h1; omega

set_option maxHeartbeats 4000000 in
theorem rlist_w {op : Int} {name tail : List UInt8} {ty p q : Int} {xs : List Ex} {pos : Nat} (hsz : xs.length ≤ 1073741824) (hln : (cmK xs xs.length).length ≤ 140737488355328) (hp : RpC (.mk op name tail ty p q xs pos) xs) (w : World) (A : Nat → Prop) (es : List Value) (hx : ExW w A (.mk op name tail ty p q xs pos) es) :
    Calls Tryz.prog 43 #[.agg es.toArray] w fun r w' => r = .returned (.string (bs (40 :: (cmK xs xs.length ++ [41])))) ∧ Below w.heap.size w w' := by
  have hxx := hx
  cases hx with
  | mk hl =>
    rename_i ao c
    have hb1 := below_alloc w (.cells #[.int .i64 op, .string (bs name), .string (bs tail), .int .i64 ty, .complex .f64 (fl p) (fl q), .slice ao xs.length c, .int .i64 pos] 53)
    have hE1 := Bk.new w 53 #[.int .i64 op, .string (bs name), .string (bs tail), .int .i64 ty, .complex .f64 (fl p) (fl q), .slice ao xs.length c, .int .i64 pos]
    generalize hW : w.alloc (.cells #[.int .i64 op, .string (bs name), .string (bs tail), .int .i64 ty, .complex .f64 (fl p) (fl q), .slice ao xs.length c, .int .i64 pos] 53) = W1 at *
    have HX1 : Hid (ExW W1 A (.mk op name tail ty p q xs pos) [.int .i64 op, .string (bs name), .string (bs tail), .int .i64 ty, .complex .f64 (fl p) (fl q), .slice ao xs.length c, .int .i64 pos]) := hxx.up hb1
    have HB1 : Hid (Below w.heap.size w W1) := hb1
    have HE1 : Hid (Bk W1 w.heap.size 53 [.int .i64 op, .string (bs name), .string (bs tail), .int .i64 ty, .complex .f64 (fl p) (fl q), .slice ao xs.length c, .int .i64 pos]) := hE1
    have HP : Hid (RpC (.mk op name tail ty p q xs pos) xs) := hp
    have HLN : Hid ((cmK xs xs.length).length ≤ 140737488355328) := hln
    clear hl hb1 hE1 hp hxx hln
    go_enter Tryz.func43, Tryz.ntmps43
    go_upto_region 1 with fail
    first | rw [hW] | skip
    clear hW
    go_wp2_with fail
    go_loopw [3, 4] (fun s i wr => ∃ k : Nat, k ≤ xs.length ∧ i = .int .i64 k ∧ s = .string (bs (40 :: cmK xs k)) ∧ Below W1.heap.size W1 wr) (fun _ i _ => xs.length - (intOf i).toNat)
    case atStart => exact ⟨0, Nat.zero_le _, rfl, rfl, Below.refl _ _⟩
    case round =>
      obtain ⟨k, hkn, rfl, rfl, hBr⟩ := hrel
      have c5 : wr.cell? ⟨w.heap.size, 5, none⟩ = some (.slice ao xs.length c) := (HE1.out.up hBr).cell 5
      by_cases hlt : k < xs.length
      · have hmo := cmK_mono xs hlt
        have hus := cmK_succ hlt
        have m1 := HP.out wr A _ (HX1.out.up hBr) k 0 hlt
        rw [pt_at 0 hlt, brq_zero] at m1
        generalize hP : shE (xs.getD k ed) = P at *
        have HU : Hid (cmK xs (k + 1) = _) := hus
        have HBR : Hid (Below W1.heap.size W1 wr) := hBr
        have hER := Bk.rng7 (HE1.out.up hBr)
        have hl9 := HLN.out
        have za : (bs (40 :: cmK xs k)).size = 1 + (cmK xs k).length := by rw [bs_size, List.length_cons]; omega
        have zp : (bs P).size = P.length := bs_size P
        by_cases h0 : k = 0
        · subst h0
          have z1 : (bs (40 :: cmK xs 0)).size + (bs P).size ≤ 9223372036854775807 := by rw [za, zp]; rw [if_pos rfl] at hmo; omega
          clear hmo hus hBr za zp hP hl9
          go_wp2_with (first
            | refine wpList_loadN rfl 53 (.tmp 1) rfl w.heap.size 0 rfl [.int .i64 op, .string (bs name), .string (bs tail), .int .i64 ty, .complex .f64 (fl p) (fl q), .slice ao xs.length c, .int .i64 pos] _ hER Tryz.underE Tryz.infoE ?_)
          refine m1.mono ?_
          rintro r w2 ⟨rfl, hb2⟩
          have HB2 : Hid (Below W1.heap.size W1 w2) := Below.thn HBR.out hb2
          clear m1 hb2 c5 hER
          go_wp2_with fail
          go_roundw
          case rel =>
            refine ⟨0 + 1, by omega, by go_num, ?_, HB2.out⟩
            rw [HU.out, if_pos trivial, List.nil_append, ← List.cons_append, ← bs_app]
          case measure => simp [intOf]; omega
        · have z1 : (bs (40 :: cmK xs k)).size + 2 ≤ 9223372036854775807 := by rw [za]; rw [if_neg h0] at hmo; omega
          have z2 : (bs (40 :: cmK xs k)).size + 2 + (bs P).size ≤ 9223372036854775807 := by rw [za, zp]; rw [if_neg h0] at hmo; omega
          have hk0 : (0 : Int) < k := by omega
          have HK0 : Hid (¬ k = 0) := h0
          clear hmo hus hBr za zp hP hl9 h0
          go_wp2_with (first
            | refine wpList_loadN rfl 53 (.tmp 1) rfl w.heap.size 0 rfl [.int .i64 op, .string (bs name), .string (bs tail), .int .i64 ty, .complex .f64 (fl p) (fl q), .slice ao xs.length c, .int .i64 pos] _ hER Tryz.underE Tryz.infoE ?_)
          refine m1.mono ?_
          rintro r w2 ⟨rfl, hb2⟩
          have HB2 : Hid (Below W1.heap.size W1 w2) := Below.thn HBR.out hb2
          clear m1 hb2 c5 hER
          go_wp2_with fail
          go_roundw
          case rel =>
            refine ⟨k + 1, by omega, by go_num, ?_, HB2.out⟩
            rw [HU.out, if_neg HK0.out, ← List.append_assoc, ← List.cons_append, ← List.cons_append, ← bs_app, ← bs_app]
            rfl
          case measure => simp [intOf]; omega
      · have hke : k = xs.length := by omega
        subst hke
        have HB2 : Hid (Below w.heap.size w wr) := Below.thn HB1.out hBr
        have z1 : (bs (40 :: cmK xs xs.length)).size + 1 ≤ 9223372036854775807 := by
          have := HLN.out
          rw [bs_size, List.length_cons]
          omega
        clear hBr
        go_wp2_with fail
        go_ret
        refine ⟨?_, HB2.out⟩
        rw [← List.cons_append, ← bs_app]
        rfl
end Go.Proofs.YtflennpocpbbpaaGreatDoor
/-
  The walk of the document's printer, operation by operation.
-/
namespace Go.Proofs.YtflennpocpbbpaaGreatDoor
open Go.RowKit
set_option maxRecDepth 100000

/-- What the document's printer answers of an expression in memory. -/
def RxE (e : Ex) (w : World) (es : List Value) : Prop := Calls Tryz.prog 23 #[.agg es.toArray] w fun r w' => r = .returned (.string (bs (shE e))) ∧ Below w.heap.size w w'
theorem ofX_fl {p q : Int} (hp : p.natAbs ≤ 16777216) (hq : q.natAbs ≤ 16777216) : ofX (fl p) (fl q) = p ∧ ofY (fl p) (fl q) = q := by
  unfold ofX ofY vc
  rw [vp_fl p hp, vp_fl q hq, nb_fl p (by omega), nb_fl q (by omega)]
  exact ⟨rfl, rfl⟩

set_option maxHeartbeats 4000000 in
theorem rx_true {w : World} {A : Nat → Prop} {name tail : List UInt8} {ty p q : Int} {xs : List Ex} {pos : Nat} {es : List Value} (hx : ExW w A (.mk 2 name tail ty p q xs pos) es) : RxE (.mk 2 name tail ty p q xs pos) w es := by
  unfold RxE
  have hxx := hx
  cases hx with
  | mk hl =>
    rename_i ao c
    have hb1 := below_alloc w (.cells #[.int .i64 2, .string (bs name), .string (bs tail), .int .i64 ty, .complex .f64 (fl p) (fl q), .slice ao xs.length c, .int .i64 pos] 53)
    have hE1 := Bk.new w 53 #[.int .i64 2, .string (bs name), .string (bs tail), .int .i64 ty, .complex .f64 (fl p) (fl q), .slice ao xs.length c, .int .i64 pos]
    generalize hW : w.alloc (.cells #[.int .i64 2, .string (bs name), .string (bs tail), .int .i64 ty, .complex .f64 (fl p) (fl q), .slice ao xs.length c, .int .i64 pos] 53) = W1 at *
    have HX1 : Hid (ExW W1 A (.mk 2 name tail ty p q xs pos) [.int .i64 2, .string (bs name), .string (bs tail), .int .i64 ty, .complex .f64 (fl p) (fl q), .slice ao xs.length c, .int .i64 pos]) := hxx.up hb1
    have HB1 : Hid (Below w.heap.size w W1) := hb1
    have HE1 : Hid (Bk W1 w.heap.size 53 [.int .i64 2, .string (bs name), .string (bs tail), .int .i64 ty, .complex .f64 (fl p) (fl q), .slice ao xs.length c, .int .i64 pos]) := hE1
    have hsg : Calls Tryz.prog 38 #[.int .i64 2] W1 fun e w' => e = .returned (.tuple #[.string ⟨#[]⟩, .int .i64 0, .int .i64 0]) ∧ w' = W1 := rsign_w (op := 2) (by unfold OpIn; omega) W1
    clear hl hb1 hE1 hxx
    go_enter Tryz.func23, Tryz.ntmps23
    go_upto_region 1 with fail
    first | rw [hW] | skip
    clear hW
    obtain ⟨c0, c1, c2, c3, c4, c5, c6⟩ := Bk.seven (show Bk W1 w.heap.size 53 [_, _, _, _, _, _, _] from HE1.out)
    go_wp2_with fail
    refine hsg.mono ?_
    rintro r wq ⟨rfl, hwq⟩
    rw [hwq]
    clear hwq hsg
    go_wp2_with fail
    go_ret
    refine ⟨?_, HB1.out⟩
    rw [shE_mk]
    rfl

set_option maxHeartbeats 4000000 in
theorem rx_false {w : World} {A : Nat → Prop} {name tail : List UInt8} {ty p q : Int} {xs : List Ex} {pos : Nat} {es : List Value} (hx : ExW w A (.mk 3 name tail ty p q xs pos) es) : RxE (.mk 3 name tail ty p q xs pos) w es := by
  unfold RxE
  have hxx := hx
  cases hx with
  | mk hl =>
    rename_i ao c
    have hb1 := below_alloc w (.cells #[.int .i64 3, .string (bs name), .string (bs tail), .int .i64 ty, .complex .f64 (fl p) (fl q), .slice ao xs.length c, .int .i64 pos] 53)
    have hE1 := Bk.new w 53 #[.int .i64 3, .string (bs name), .string (bs tail), .int .i64 ty, .complex .f64 (fl p) (fl q), .slice ao xs.length c, .int .i64 pos]
    generalize hW : w.alloc (.cells #[.int .i64 3, .string (bs name), .string (bs tail), .int .i64 ty, .complex .f64 (fl p) (fl q), .slice ao xs.length c, .int .i64 pos] 53) = W1 at *
    have HX1 : Hid (ExW W1 A (.mk 3 name tail ty p q xs pos) [.int .i64 3, .string (bs name), .string (bs tail), .int .i64 ty, .complex .f64 (fl p) (fl q), .slice ao xs.length c, .int .i64 pos]) := hxx.up hb1
    have HB1 : Hid (Below w.heap.size w W1) := hb1
    have HE1 : Hid (Bk W1 w.heap.size 53 [.int .i64 3, .string (bs name), .string (bs tail), .int .i64 ty, .complex .f64 (fl p) (fl q), .slice ao xs.length c, .int .i64 pos]) := hE1
    have hsg : Calls Tryz.prog 38 #[.int .i64 3] W1 fun e w' => e = .returned (.tuple #[.string ⟨#[]⟩, .int .i64 0, .int .i64 0]) ∧ w' = W1 := rsign_w (op := 3) (by unfold OpIn; omega) W1
    clear hl hb1 hE1 hxx
    go_enter Tryz.func23, Tryz.ntmps23
    go_upto_region 1 with fail
    first | rw [hW] | skip
    clear hW
    obtain ⟨c0, c1, c2, c3, c4, c5, c6⟩ := Bk.seven (show Bk W1 w.heap.size 53 [_, _, _, _, _, _, _] from HE1.out)
    go_wp2_with fail
    refine hsg.mono ?_
    rintro r wq ⟨rfl, hwq⟩
    rw [hwq]
    clear hwq hsg
    go_wp2_with fail
    go_ret
    refine ⟨?_, HB1.out⟩
    rw [shE_mk]
    rfl

set_option maxHeartbeats 4000000 in
theorem rx_nil {w : World} {A : Nat → Prop} {name tail : List UInt8} {ty p q : Int} {xs : List Ex} {pos : Nat} {es : List Value} (hx : ExW w A (.mk 4 name tail ty p q xs pos) es) : RxE (.mk 4 name tail ty p q xs pos) w es := by
  unfold RxE
  have hxx := hx
  cases hx with
  | mk hl =>
    rename_i ao c
    have hb1 := below_alloc w (.cells #[.int .i64 4, .string (bs name), .string (bs tail), .int .i64 ty, .complex .f64 (fl p) (fl q), .slice ao xs.length c, .int .i64 pos] 53)
    have hE1 := Bk.new w 53 #[.int .i64 4, .string (bs name), .string (bs tail), .int .i64 ty, .complex .f64 (fl p) (fl q), .slice ao xs.length c, .int .i64 pos]
    generalize hW : w.alloc (.cells #[.int .i64 4, .string (bs name), .string (bs tail), .int .i64 ty, .complex .f64 (fl p) (fl q), .slice ao xs.length c, .int .i64 pos] 53) = W1 at *
    have HX1 : Hid (ExW W1 A (.mk 4 name tail ty p q xs pos) [.int .i64 4, .string (bs name), .string (bs tail), .int .i64 ty, .complex .f64 (fl p) (fl q), .slice ao xs.length c, .int .i64 pos]) := hxx.up hb1
    have HB1 : Hid (Below w.heap.size w W1) := hb1
    have HE1 : Hid (Bk W1 w.heap.size 53 [.int .i64 4, .string (bs name), .string (bs tail), .int .i64 ty, .complex .f64 (fl p) (fl q), .slice ao xs.length c, .int .i64 pos]) := hE1
    have hsg : Calls Tryz.prog 38 #[.int .i64 4] W1 fun e w' => e = .returned (.tuple #[.string ⟨#[]⟩, .int .i64 0, .int .i64 0]) ∧ w' = W1 := rsign_w (op := 4) (by unfold OpIn; omega) W1
    clear hl hb1 hE1 hxx
    go_enter Tryz.func23, Tryz.ntmps23
    go_upto_region 1 with fail
    first | rw [hW] | skip
    clear hW
    obtain ⟨c0, c1, c2, c3, c4, c5, c6⟩ := Bk.seven (show Bk W1 w.heap.size 53 [_, _, _, _, _, _, _] from HE1.out)
    go_wp2_with fail
    refine hsg.mono ?_
    rintro r wq ⟨rfl, hwq⟩
    rw [hwq]
    clear hwq hsg
    go_wp2_with fail
    go_ret
    refine ⟨?_, HB1.out⟩
    rw [shE_mk]
    rfl

set_option maxHeartbeats 4000000 in
theorem rx_var {w : World} {A : Nat → Prop} {name tail : List UInt8} {ty p q : Int} {xs : List Ex} {pos : Nat} {es : List Value} (hx : ExW w A (.mk 6 name tail ty p q xs pos) es) : RxE (.mk 6 name tail ty p q xs pos) w es := by
  unfold RxE
  have hxx := hx
  cases hx with
  | mk hl =>
    rename_i ao c
    have hb1 := below_alloc w (.cells #[.int .i64 6, .string (bs name), .string (bs tail), .int .i64 ty, .complex .f64 (fl p) (fl q), .slice ao xs.length c, .int .i64 pos] 53)
    have hE1 := Bk.new w 53 #[.int .i64 6, .string (bs name), .string (bs tail), .int .i64 ty, .complex .f64 (fl p) (fl q), .slice ao xs.length c, .int .i64 pos]
    generalize hW : w.alloc (.cells #[.int .i64 6, .string (bs name), .string (bs tail), .int .i64 ty, .complex .f64 (fl p) (fl q), .slice ao xs.length c, .int .i64 pos] 53) = W1 at *
    have HX1 : Hid (ExW W1 A (.mk 6 name tail ty p q xs pos) [.int .i64 6, .string (bs name), .string (bs tail), .int .i64 ty, .complex .f64 (fl p) (fl q), .slice ao xs.length c, .int .i64 pos]) := hxx.up hb1
    have HB1 : Hid (Below w.heap.size w W1) := hb1
    have HE1 : Hid (Bk W1 w.heap.size 53 [.int .i64 6, .string (bs name), .string (bs tail), .int .i64 ty, .complex .f64 (fl p) (fl q), .slice ao xs.length c, .int .i64 pos]) := hE1
    have hsg : Calls Tryz.prog 38 #[.int .i64 6] W1 fun e w' => e = .returned (.tuple #[.string ⟨#[]⟩, .int .i64 0, .int .i64 0]) ∧ w' = W1 := rsign_w (op := 6) (by unfold OpIn; omega) W1
    clear hl hb1 hE1 hxx
    go_enter Tryz.func23, Tryz.ntmps23
    go_upto_region 1 with fail
    first | rw [hW] | skip
    clear hW
    obtain ⟨c0, c1, c2, c3, c4, c5, c6⟩ := Bk.seven (show Bk W1 w.heap.size 53 [_, _, _, _, _, _, _] from HE1.out)
    go_wp2_with fail
    refine hsg.mono ?_
    rintro r wq ⟨rfl, hwq⟩
    rw [hwq]
    clear hwq hsg
    go_wp2_with fail
    go_ret
    refine ⟨?_, HB1.out⟩
    rw [shE_mk]
    rfl

set_option maxHeartbeats 4000000 in
theorem rx_num {w : World} {A : Nat → Prop} {name tail : List UInt8} {ty p q : Int} {xs : List Ex} {pos : Nat} {es : List Value} (hx : ExW w A (.mk 1 name tail ty p q xs pos) es) (hp : p.natAbs ≤ 16777216) (hq : q.natAbs ≤ 16777216) : RxE (.mk 1 name tail ty p q xs pos) w es := by
  unfold RxE
  have hxx := hx
  cases hx with
  | mk hl =>
    rename_i ao c
    have hb1 := below_alloc w (.cells #[.int .i64 1, .string (bs name), .string (bs tail), .int .i64 ty, .complex .f64 (fl p) (fl q), .slice ao xs.length c, .int .i64 pos] 53)
    have hE1 := Bk.new w 53 #[.int .i64 1, .string (bs name), .string (bs tail), .int .i64 ty, .complex .f64 (fl p) (fl q), .slice ao xs.length c, .int .i64 pos]
    generalize hW : w.alloc (.cells #[.int .i64 1, .string (bs name), .string (bs tail), .int .i64 ty, .complex .f64 (fl p) (fl q), .slice ao xs.length c, .int .i64 pos] 53) = W1 at *
    have HX1 : Hid (ExW W1 A (.mk 1 name tail ty p q xs pos) [.int .i64 1, .string (bs name), .string (bs tail), .int .i64 ty, .complex .f64 (fl p) (fl q), .slice ao xs.length c, .int .i64 pos]) := hxx.up hb1
    have HB1 : Hid (Below w.heap.size w W1) := hb1
    have HE1 : Hid (Bk W1 w.heap.size 53 [.int .i64 1, .string (bs name), .string (bs tail), .int .i64 ty, .complex .f64 (fl p) (fl q), .slice ao xs.length c, .int .i64 pos]) := hE1
    have hsg : Calls Tryz.prog 38 #[.int .i64 1] W1 fun e w' => e = .returned (.tuple #[.string ⟨#[]⟩, .int .i64 0, .int .i64 0]) ∧ w' = W1 := rsign_w (op := 1) (by unfold OpIn; omega) W1
    clear hl hb1 hE1 hxx
    go_enter Tryz.func23, Tryz.ntmps23
    go_upto_region 1 with fail
    first | rw [hW] | skip
    clear hW
    obtain ⟨c0, c1, c2, c3, c4, c5, c6⟩ := Bk.seven (show Bk W1 w.heap.size 53 [_, _, _, _, _, _, _] from HE1.out)
    go_wp2_with fail
    refine hsg.mono ?_
    rintro r wq ⟨rfl, hwq⟩
    rw [hwq]
    clear hwq hsg
    have m1 := of_any (fl p) (fl q) W1 (fl_lt p (by omega)) (fl_lt q (by omega))
    rw [(ofX_fl hp hq).1, (ofX_fl hp hq).2] at m1
    go_wp2_with fail
    refine m1.mono ?_
    rintro r w2 ⟨rfl, hw2⟩
    have hb2 : Below W1.heap.size W1 w2 := by rw [hw2]; exact below_alloc _ _
    clear hw2 m1
    have hb3 := below_alloc w2 (.cells #[.int .i64 p, .int .i64 q] 95)
    have hN := Bk.new w2 95 #[.int .i64 p, .int .i64 q]
    have m2 := rtext_w p q (w2.alloc (.cells #[.int .i64 p, .int .i64 q] 95)) hp hq
    have HB3 : Hid _ := Below.thn HB1.out (Below.thn hb2 hb3)
    clear hb2 hb3 hp hq
    go_wp2_with fail
    refine m2.mono ?_
    rintro r w4 ⟨rfl, hb4⟩
    have HB4 : Hid (Below w.heap.size w w4) := Below.thn HB3.out hb4
    clear m2 hb4
    go_wp2_with fail
    go_ret
    refine ⟨?_, HB4.out⟩
    rw [shE_mk]
    rfl

set_option maxHeartbeats 4000000 in
theorem rx_fail {w : World} {A : Nat → Prop} {name tail : List UInt8} {ty p q : Int} {xs : List Ex} {pos : Nat} {es : List Value} (hx : ExW w A (.mk 5 name tail ty p q xs pos) es) (ht : ty = 1 ∨ ty = 2 ∨ ty = 3) : RxE (.mk 5 name tail ty p q xs pos) w es := by
  unfold RxE
  have hxx := hx
  cases hx with
  | mk hl =>
    rename_i ao c
    have hb1 := below_alloc w (.cells #[.int .i64 5, .string (bs name), .string (bs tail), .int .i64 ty, .complex .f64 (fl p) (fl q), .slice ao xs.length c, .int .i64 pos] 53)
    have hE1 := Bk.new w 53 #[.int .i64 5, .string (bs name), .string (bs tail), .int .i64 ty, .complex .f64 (fl p) (fl q), .slice ao xs.length c, .int .i64 pos]
    generalize hW : w.alloc (.cells #[.int .i64 5, .string (bs name), .string (bs tail), .int .i64 ty, .complex .f64 (fl p) (fl q), .slice ao xs.length c, .int .i64 pos] 53) = W1 at *
    have HX1 : Hid (ExW W1 A (.mk 5 name tail ty p q xs pos) [.int .i64 5, .string (bs name), .string (bs tail), .int .i64 ty, .complex .f64 (fl p) (fl q), .slice ao xs.length c, .int .i64 pos]) := hxx.up hb1
    have HB1 : Hid (Below w.heap.size w W1) := hb1
    have HE1 : Hid (Bk W1 w.heap.size 53 [.int .i64 5, .string (bs name), .string (bs tail), .int .i64 ty, .complex .f64 (fl p) (fl q), .slice ao xs.length c, .int .i64 pos]) := hE1
    have hsg : Calls Tryz.prog 38 #[.int .i64 5] W1 fun e w' => e = .returned (.tuple #[.string ⟨#[]⟩, .int .i64 0, .int .i64 0]) ∧ w' = W1 := rsign_w (op := 5) (by unfold OpIn; omega) W1
    clear hl hb1 hE1 hxx
    go_enter Tryz.func23, Tryz.ntmps23
    go_upto_region 1 with fail
    first | rw [hW] | skip
    clear hW
    obtain ⟨c0, c1, c2, c3, c4, c5, c6⟩ := Bk.seven (show Bk W1 w.heap.size 53 [_, _, _, _, _, _, _] from HE1.out)
    go_wp2_with fail
    refine hsg.mono ?_
    rintro r wq ⟨rfl, hwq⟩
    rw [hwq]
    clear hwq hsg
    have m1 := rletter_w ht W1
    have z1 : 5 + (bs (letT ty)).size ≤ 9223372036854775807 := by have := letT_len ty; rw [bs_size]; omega
    clear ht
    go_wp2_with fail
    refine m1.mono ?_
    rintro r wq ⟨rfl, hwq⟩
    rw [hwq]
    clear hwq m1
    go_wp2_with fail
    go_ret
    refine ⟨?_, HB1.out⟩
    rw [shE_mk, show fm 5 name tail ty p q (shL xs) = [102, 97, 105, 108, 32] ++ letT ty from rfl, ← bs_app]
    rfl

set_option maxHeartbeats 4000000 in
theorem rx_un14 {w : World} {A : Nat → Prop} {name tail : List UInt8} {ty p q : Int} {xs : List Ex} {pos : Nat} {es : List Value} (hx : ExW w A (.mk 14 name tail ty p q xs pos) es) (hm : ∀ (w : World) (A : Nat → Prop) (es : List Value), ExW w A (.mk 14 name tail ty p q xs pos) es → Calls Tryz.prog 43 #[.agg es.toArray] w fun r w' => r = .returned (.string (bs (40 :: (cmK xs xs.length ++ [41])))) ∧ Below w.heap.size w w') (hone : cmK xs xs.length = pt (shL xs) 0 0) (hln : (cmK xs xs.length).length ≤ 140737488355328) : RxE (.mk 14 name tail ty p q xs pos) w es := by
  unfold RxE
  have hxx := hx
  cases hx with
  | mk hl =>
    rename_i ao c
    have hb1 := below_alloc w (.cells #[.int .i64 14, .string (bs name), .string (bs tail), .int .i64 ty, .complex .f64 (fl p) (fl q), .slice ao xs.length c, .int .i64 pos] 53)
    have hE1 := Bk.new w 53 #[.int .i64 14, .string (bs name), .string (bs tail), .int .i64 ty, .complex .f64 (fl p) (fl q), .slice ao xs.length c, .int .i64 pos]
    generalize hW : w.alloc (.cells #[.int .i64 14, .string (bs name), .string (bs tail), .int .i64 ty, .complex .f64 (fl p) (fl q), .slice ao xs.length c, .int .i64 pos] 53) = W1 at *
    have HX1 : Hid (ExW W1 A (.mk 14 name tail ty p q xs pos) [.int .i64 14, .string (bs name), .string (bs tail), .int .i64 ty, .complex .f64 (fl p) (fl q), .slice ao xs.length c, .int .i64 pos]) := hxx.up hb1
    have HB1 : Hid (Below w.heap.size w W1) := hb1
    have HE1 : Hid (Bk W1 w.heap.size 53 [.int .i64 14, .string (bs name), .string (bs tail), .int .i64 ty, .complex .f64 (fl p) (fl q), .slice ao xs.length c, .int .i64 pos]) := hE1
    have hsg : Calls Tryz.prog 38 #[.int .i64 14] W1 fun e w' => e = .returned (.tuple #[.string ⟨#[]⟩, .int .i64 0, .int .i64 0]) ∧ w' = W1 := rsign_w (op := 14) (by unfold OpIn; omega) W1
    clear hl hb1 hE1 hxx
    go_enter Tryz.func23, Tryz.ntmps23
    go_upto_region 1 with fail
    first | rw [hW] | skip
    clear hW
    obtain ⟨c0, c1, c2, c3, c4, c5, c6⟩ := Bk.seven (show Bk W1 w.heap.size 53 [_, _, _, _, _, _, _] from HE1.out)
    go_wp2_with fail
    refine hsg.mono ?_
    rintro r wq ⟨rfl, hwq⟩
    rw [hwq]
    clear hwq hsg
    have m1 := hm W1 A _ HX1.out
    generalize hQ : (40 :: (cmK xs xs.length ++ [41])) = Q at *
    have z1 : 3 + (bs Q).size ≤ 9223372036854775807 := by rw [bs_size, ← hQ, List.length_cons, List.length_append]; simp only [List.length_cons, List.length_nil]; omega
    have HQ : Hid ((40 :: (cmK xs xs.length ++ [41])) = Q) := hQ
    have HO : Hid (cmK xs xs.length = pt (shL xs) 0 0) := hone
    clear hm hQ hone hln
    go_wp2_with (first
      | refine wpList_loadN rfl 53 (.tmp 1) rfl w.heap.size 0 rfl [.int .i64 14, .string (bs name), .string (bs tail), .int .i64 ty, .complex .f64 (fl p) (fl q), .slice ao xs.length c, .int .i64 pos] _ (Bk.rng7 HE1.out) Tryz.underE Tryz.infoE ?_)
    refine m1.mono ?_
    rintro r w2 ⟨rfl, hb2⟩
    have HB2 : Hid (Below w.heap.size w w2) := Below.thn HB1.out hb2
    clear m1 hb2
    go_wp2_with fail
    go_ret
    refine ⟨?_, HB2.out⟩
    rw [shE_mk, show fm 14 name tail ty p q (shL xs) = [110, 111, 116] ++ (40 :: (pt (shL xs) 0 0 ++ [41])) from rfl, ← HO.out, HQ.out, ← bs_app]
    rfl

set_option maxHeartbeats 4000000 in
theorem rx_un15 {w : World} {A : Nat → Prop} {name tail : List UInt8} {ty p q : Int} {xs : List Ex} {pos : Nat} {es : List Value} (hx : ExW w A (.mk 15 name tail ty p q xs pos) es) (hm : ∀ (w : World) (A : Nat → Prop) (es : List Value), ExW w A (.mk 15 name tail ty p q xs pos) es → Calls Tryz.prog 43 #[.agg es.toArray] w fun r w' => r = .returned (.string (bs (40 :: (cmK xs xs.length ++ [41])))) ∧ Below w.heap.size w w') (hone : cmK xs xs.length = pt (shL xs) 0 0) (hln : (cmK xs xs.length).length ≤ 140737488355328) : RxE (.mk 15 name tail ty p q xs pos) w es := by
  unfold RxE
  have hxx := hx
  cases hx with
  | mk hl =>
    rename_i ao c
    have hb1 := below_alloc w (.cells #[.int .i64 15, .string (bs name), .string (bs tail), .int .i64 ty, .complex .f64 (fl p) (fl q), .slice ao xs.length c, .int .i64 pos] 53)
    have hE1 := Bk.new w 53 #[.int .i64 15, .string (bs name), .string (bs tail), .int .i64 ty, .complex .f64 (fl p) (fl q), .slice ao xs.length c, .int .i64 pos]
    generalize hW : w.alloc (.cells #[.int .i64 15, .string (bs name), .string (bs tail), .int .i64 ty, .complex .f64 (fl p) (fl q), .slice ao xs.length c, .int .i64 pos] 53) = W1 at *
    have HX1 : Hid (ExW W1 A (.mk 15 name tail ty p q xs pos) [.int .i64 15, .string (bs name), .string (bs tail), .int .i64 ty, .complex .f64 (fl p) (fl q), .slice ao xs.length c, .int .i64 pos]) := hxx.up hb1
    have HB1 : Hid (Below w.heap.size w W1) := hb1
    have HE1 : Hid (Bk W1 w.heap.size 53 [.int .i64 15, .string (bs name), .string (bs tail), .int .i64 ty, .complex .f64 (fl p) (fl q), .slice ao xs.length c, .int .i64 pos]) := hE1
    have hsg : Calls Tryz.prog 38 #[.int .i64 15] W1 fun e w' => e = .returned (.tuple #[.string ⟨#[]⟩, .int .i64 0, .int .i64 0]) ∧ w' = W1 := rsign_w (op := 15) (by unfold OpIn; omega) W1
    clear hl hb1 hE1 hxx
    go_enter Tryz.func23, Tryz.ntmps23
    go_upto_region 1 with fail
    first | rw [hW] | skip
    clear hW
    obtain ⟨c0, c1, c2, c3, c4, c5, c6⟩ := Bk.seven (show Bk W1 w.heap.size 53 [_, _, _, _, _, _, _] from HE1.out)
    go_wp2_with fail
    refine hsg.mono ?_
    rintro r wq ⟨rfl, hwq⟩
    rw [hwq]
    clear hwq hsg
    have m1 := hm W1 A _ HX1.out
    generalize hQ : (40 :: (cmK xs xs.length ++ [41])) = Q at *
    have z1 : 2 + (bs Q).size ≤ 9223372036854775807 := by rw [bs_size, ← hQ, List.length_cons, List.length_append]; simp only [List.length_cons, List.length_nil]; omega
    have HQ : Hid ((40 :: (cmK xs xs.length ++ [41])) = Q) := hQ
    have HO : Hid (cmK xs xs.length = pt (shL xs) 0 0) := hone
    clear hm hQ hone hln
    go_wp2_with (first
      | refine wpList_loadN rfl 53 (.tmp 1) rfl w.heap.size 0 rfl [.int .i64 15, .string (bs name), .string (bs tail), .int .i64 ty, .complex .f64 (fl p) (fl q), .slice ao xs.length c, .int .i64 pos] _ (Bk.rng7 HE1.out) Tryz.underE Tryz.infoE ?_)
    refine m1.mono ?_
    rintro r w2 ⟨rfl, hb2⟩
    have HB2 : Hid (Below w.heap.size w w2) := Below.thn HB1.out hb2
    clear m1 hb2
    go_wp2_with fail
    go_ret
    refine ⟨?_, HB2.out⟩
    rw [shE_mk, show fm 15 name tail ty p q (shL xs) = [114, 101] ++ (40 :: (pt (shL xs) 0 0 ++ [41])) from rfl, ← HO.out, HQ.out, ← bs_app]
    rfl

set_option maxHeartbeats 4000000 in
theorem rx_un16 {w : World} {A : Nat → Prop} {name tail : List UInt8} {ty p q : Int} {xs : List Ex} {pos : Nat} {es : List Value} (hx : ExW w A (.mk 16 name tail ty p q xs pos) es) (hm : ∀ (w : World) (A : Nat → Prop) (es : List Value), ExW w A (.mk 16 name tail ty p q xs pos) es → Calls Tryz.prog 43 #[.agg es.toArray] w fun r w' => r = .returned (.string (bs (40 :: (cmK xs xs.length ++ [41])))) ∧ Below w.heap.size w w') (hone : cmK xs xs.length = pt (shL xs) 0 0) (hln : (cmK xs xs.length).length ≤ 140737488355328) : RxE (.mk 16 name tail ty p q xs pos) w es := by
  unfold RxE
  have hxx := hx
  cases hx with
  | mk hl =>
    rename_i ao c
    have hb1 := below_alloc w (.cells #[.int .i64 16, .string (bs name), .string (bs tail), .int .i64 ty, .complex .f64 (fl p) (fl q), .slice ao xs.length c, .int .i64 pos] 53)
    have hE1 := Bk.new w 53 #[.int .i64 16, .string (bs name), .string (bs tail), .int .i64 ty, .complex .f64 (fl p) (fl q), .slice ao xs.length c, .int .i64 pos]
    generalize hW : w.alloc (.cells #[.int .i64 16, .string (bs name), .string (bs tail), .int .i64 ty, .complex .f64 (fl p) (fl q), .slice ao xs.length c, .int .i64 pos] 53) = W1 at *
    have HX1 : Hid (ExW W1 A (.mk 16 name tail ty p q xs pos) [.int .i64 16, .string (bs name), .string (bs tail), .int .i64 ty, .complex .f64 (fl p) (fl q), .slice ao xs.length c, .int .i64 pos]) := hxx.up hb1
    have HB1 : Hid (Below w.heap.size w W1) := hb1
    have HE1 : Hid (Bk W1 w.heap.size 53 [.int .i64 16, .string (bs name), .string (bs tail), .int .i64 ty, .complex .f64 (fl p) (fl q), .slice ao xs.length c, .int .i64 pos]) := hE1
    have hsg : Calls Tryz.prog 38 #[.int .i64 16] W1 fun e w' => e = .returned (.tuple #[.string ⟨#[]⟩, .int .i64 0, .int .i64 0]) ∧ w' = W1 := rsign_w (op := 16) (by unfold OpIn; omega) W1
    clear hl hb1 hE1 hxx
    go_enter Tryz.func23, Tryz.ntmps23
    go_upto_region 1 with fail
    first | rw [hW] | skip
    clear hW
    obtain ⟨c0, c1, c2, c3, c4, c5, c6⟩ := Bk.seven (show Bk W1 w.heap.size 53 [_, _, _, _, _, _, _] from HE1.out)
    go_wp2_with fail
    refine hsg.mono ?_
    rintro r wq ⟨rfl, hwq⟩
    rw [hwq]
    clear hwq hsg
    have m1 := hm W1 A _ HX1.out
    generalize hQ : (40 :: (cmK xs xs.length ++ [41])) = Q at *
    have z1 : 2 + (bs Q).size ≤ 9223372036854775807 := by rw [bs_size, ← hQ, List.length_cons, List.length_append]; simp only [List.length_cons, List.length_nil]; omega
    have HQ : Hid ((40 :: (cmK xs xs.length ++ [41])) = Q) := hQ
    have HO : Hid (cmK xs xs.length = pt (shL xs) 0 0) := hone
    clear hm hQ hone hln
    go_wp2_with (first
      | refine wpList_loadN rfl 53 (.tmp 1) rfl w.heap.size 0 rfl [.int .i64 16, .string (bs name), .string (bs tail), .int .i64 ty, .complex .f64 (fl p) (fl q), .slice ao xs.length c, .int .i64 pos] _ (Bk.rng7 HE1.out) Tryz.underE Tryz.infoE ?_)
    refine m1.mono ?_
    rintro r w2 ⟨rfl, hb2⟩
    have HB2 : Hid (Below w.heap.size w w2) := Below.thn HB1.out hb2
    clear m1 hb2
    go_wp2_with fail
    go_ret
    refine ⟨?_, HB2.out⟩
    rw [shE_mk, show fm 16 name tail ty p q (shL xs) = [105, 109] ++ (40 :: (pt (shL xs) 0 0 ++ [41])) from rfl, ← HO.out, HQ.out, ← bs_app]
    rfl

set_option maxHeartbeats 4000000 in
theorem rx_un17 {w : World} {A : Nat → Prop} {name tail : List UInt8} {ty p q : Int} {xs : List Ex} {pos : Nat} {es : List Value} (hx : ExW w A (.mk 17 name tail ty p q xs pos) es) (hm : ∀ (w : World) (A : Nat → Prop) (es : List Value), ExW w A (.mk 17 name tail ty p q xs pos) es → Calls Tryz.prog 43 #[.agg es.toArray] w fun r w' => r = .returned (.string (bs (40 :: (cmK xs xs.length ++ [41])))) ∧ Below w.heap.size w w') (hone : cmK xs xs.length = pt (shL xs) 0 0) (hln : (cmK xs xs.length).length ≤ 140737488355328) : RxE (.mk 17 name tail ty p q xs pos) w es := by
  unfold RxE
  have hxx := hx
  cases hx with
  | mk hl =>
    rename_i ao c
    have hb1 := below_alloc w (.cells #[.int .i64 17, .string (bs name), .string (bs tail), .int .i64 ty, .complex .f64 (fl p) (fl q), .slice ao xs.length c, .int .i64 pos] 53)
    have hE1 := Bk.new w 53 #[.int .i64 17, .string (bs name), .string (bs tail), .int .i64 ty, .complex .f64 (fl p) (fl q), .slice ao xs.length c, .int .i64 pos]
    generalize hW : w.alloc (.cells #[.int .i64 17, .string (bs name), .string (bs tail), .int .i64 ty, .complex .f64 (fl p) (fl q), .slice ao xs.length c, .int .i64 pos] 53) = W1 at *
    have HX1 : Hid (ExW W1 A (.mk 17 name tail ty p q xs pos) [.int .i64 17, .string (bs name), .string (bs tail), .int .i64 ty, .complex .f64 (fl p) (fl q), .slice ao xs.length c, .int .i64 pos]) := hxx.up hb1
    have HB1 : Hid (Below w.heap.size w W1) := hb1
    have HE1 : Hid (Bk W1 w.heap.size 53 [.int .i64 17, .string (bs name), .string (bs tail), .int .i64 ty, .complex .f64 (fl p) (fl q), .slice ao xs.length c, .int .i64 pos]) := hE1
    have hsg : Calls Tryz.prog 38 #[.int .i64 17] W1 fun e w' => e = .returned (.tuple #[.string ⟨#[]⟩, .int .i64 0, .int .i64 0]) ∧ w' = W1 := rsign_w (op := 17) (by unfold OpIn; omega) W1
    clear hl hb1 hE1 hxx
    go_enter Tryz.func23, Tryz.ntmps23
    go_upto_region 1 with fail
    first | rw [hW] | skip
    clear hW
    obtain ⟨c0, c1, c2, c3, c4, c5, c6⟩ := Bk.seven (show Bk W1 w.heap.size 53 [_, _, _, _, _, _, _] from HE1.out)
    go_wp2_with fail
    refine hsg.mono ?_
    rintro r wq ⟨rfl, hwq⟩
    rw [hwq]
    clear hwq hsg
    have m1 := hm W1 A _ HX1.out
    generalize hQ : (40 :: (cmK xs xs.length ++ [41])) = Q at *
    have z1 : 4 + (bs Q).size ≤ 9223372036854775807 := by rw [bs_size, ← hQ, List.length_cons, List.length_append]; simp only [List.length_cons, List.length_nil]; omega
    have HQ : Hid ((40 :: (cmK xs xs.length ++ [41])) = Q) := hQ
    have HO : Hid (cmK xs xs.length = pt (shL xs) 0 0) := hone
    clear hm hQ hone hln
    go_wp2_with (first
      | refine wpList_loadN rfl 53 (.tmp 1) rfl w.heap.size 0 rfl [.int .i64 17, .string (bs name), .string (bs tail), .int .i64 ty, .complex .f64 (fl p) (fl q), .slice ao xs.length c, .int .i64 pos] _ (Bk.rng7 HE1.out) Tryz.underE Tryz.infoE ?_)
    refine m1.mono ?_
    rintro r w2 ⟨rfl, hb2⟩
    have HB2 : Hid (Below w.heap.size w w2) := Below.thn HB1.out hb2
    clear m1 hb2
    go_wp2_with fail
    go_ret
    refine ⟨?_, HB2.out⟩
    rw [shE_mk, show fm 17 name tail ty p q (shL xs) = [99, 111, 110, 106] ++ (40 :: (pt (shL xs) 0 0 ++ [41])) from rfl, ← HO.out, HQ.out, ← bs_app]
    rfl

set_option maxHeartbeats 4000000 in
theorem rx_op18 {w : World} {A : Nat → Prop} {name tail : List UInt8} {ty p q : Int} {xs : List Ex} {pos : Nat} {es : List Value} (hx : ExW w A (.mk 18 name tail ty p q xs pos) es) (hlen : (shE (.mk 18 name tail ty p q xs pos)).length ≤ 140737488355328) (hp : RpC (.mk 18 name tail ty p q xs pos) xs) (hn : xs.length = 2) : RxE (.mk 18 name tail ty p q xs pos) w es := by
  have hsum := hlen
  rw [shE_mk, show fm 18 name tail ty p q (shL xs) = pt (shL xs) 0 2 ++ [32, 58, 32] ++ pt (shL xs) 1 1 from (by simp [fm, loL, roL, signT])] at hsum
  generalize hP0 : pt (shL xs) 0 2 = P0 at hsum
  generalize hP1 : pt (shL xs) 1 1 = P1 at hsum
  simp only [List.length_append, List.length_cons, List.length_nil] at hsum
  clear hlen
  unfold RxE
  have hxx := hx
  have HN : Hid (xs.length = 2) := hn
  have HSU : Hid (_ ≤ 140737488355328) := hsum
  clear hn hsum
  cases hx with
  | mk hl =>
    rename_i ao c
    have hb1 := below_alloc w (.cells #[.int .i64 18, .string (bs name), .string (bs tail), .int .i64 ty, .complex .f64 (fl p) (fl q), .slice ao xs.length c, .int .i64 pos] 53)
    have hE1 := Bk.new w 53 #[.int .i64 18, .string (bs name), .string (bs tail), .int .i64 ty, .complex .f64 (fl p) (fl q), .slice ao xs.length c, .int .i64 pos]
    generalize hW : w.alloc (.cells #[.int .i64 18, .string (bs name), .string (bs tail), .int .i64 ty, .complex .f64 (fl p) (fl q), .slice ao xs.length c, .int .i64 pos] 53) = W1 at *
    have HX1 : Hid (ExW W1 A (.mk 18 name tail ty p q xs pos) [.int .i64 18, .string (bs name), .string (bs tail), .int .i64 ty, .complex .f64 (fl p) (fl q), .slice ao xs.length c, .int .i64 pos]) := hxx.up hb1
    have HB1 : Hid (Below w.heap.size w W1) := hb1
    have HE1 : Hid (Bk W1 w.heap.size 53 [.int .i64 18, .string (bs name), .string (bs tail), .int .i64 ty, .complex .f64 (fl p) (fl q), .slice ao xs.length c, .int .i64 pos]) := hE1
    have hsg : Calls Tryz.prog 38 #[.int .i64 18] W1 fun e w' => e = .returned (.tuple #[.string ⟨#[32, 58, 32]⟩, .int .i64 2, .int .i64 1]) ∧ w' = W1 := rsign_w (op := 18) (by unfold OpIn; omega) W1
    clear hl hb1 hE1 hxx
    go_enter Tryz.func23, Tryz.ntmps23
    go_upto_region 1 with fail
    first | rw [hW] | skip
    clear hW
    obtain ⟨c0, c1, c2, c3, c4, c5, c6⟩ := Bk.seven (show Bk W1 w.heap.size 53 [_, _, _, _, _, _, _] from HE1.out)
    go_wp2_with fail
    refine hsg.mono ?_
    rintro r wq ⟨rfl, hwq⟩
    rw [hwq]
    clear hwq hsg
    have hsum := HSU.out
    have hn := HN.out
    have z2 : (bs P0).size + 3 ≤ 9223372036854775807 := by simp only [bs_size]; omega
    have z3 : (bs P0).size + 3 + (bs P1).size ≤ 9223372036854775807 := by simp only [bs_size]; omega
    have m0 : ∀ W, Below W1.heap.size W1 W → Calls Tryz.prog 39 #[.agg #[.int .i64 18, .string (bs name), .string (bs tail), .int .i64 ty, .complex .f64 (fl p) (fl q), .slice ao xs.length c, .int .i64 pos], .int .i64 0, .int .i64 2] W fun r w' => r = .returned (.string (bs P0)) ∧ Below W.heap.size W w' := fun W hW => by rw [← hP0]; exact hp W A _ (HX1.out.up hW) 0 2 (by omega)
    have m1 : ∀ W, Below W1.heap.size W1 W → Calls Tryz.prog 39 #[.agg #[.int .i64 18, .string (bs name), .string (bs tail), .int .i64 ty, .complex .f64 (fl p) (fl q), .slice ao xs.length c, .int .i64 pos], .int .i64 1, .int .i64 1] W fun r w' => r = .returned (.string (bs P1)) ∧ Below W.heap.size W w' := fun W hW => by rw [← hP1]; exact hp W A _ (HX1.out.up hW) 1 1 (by omega)
    have sB : ∀ W, Below W1.heap.size W1 W → W.cell? ⟨w.heap.size, 0, none⟩ = some (.int .i64 18) ∧ W.cell? ⟨w.heap.size, 1, none⟩ = some (.string (bs name)) ∧ W.cell? ⟨w.heap.size, 2, none⟩ = some (.string (bs tail)) ∧ W.cell? ⟨w.heap.size, 3, none⟩ = some (.int .i64 ty) ∧ W.cell? ⟨w.heap.size, 4, none⟩ = some (.complex .f64 (fl p) (fl q)) ∧ W.cell? ⟨w.heap.size, 5, none⟩ = some (.slice ao xs.length c) ∧ W.cell? ⟨w.heap.size, 6, none⟩ = some (.int .i64 pos)  := fun W h => ⟨(HE1.out.up h).cell 0, (HE1.out.up h).cell 1, (HE1.out.up h).cell 2, (HE1.out.up h).cell 3, (HE1.out.up h).cell 4, (HE1.out.up h).cell 5, (HE1.out.up h).cell 6⟩
    have hB1 := Below.refl W1.heap.size W1
    have hBD := (Below.refl W1.heap.size W1).drew
    have s1 := sB W1 hB1
    have sD := sB W1.drew hBD
    have HPX : Hid (pt (shL xs) 0 2 = P0 ∧ pt (shL xs) 1 1 = P1) := ⟨hP0, hP1⟩
    clear hP0 hP1 hp hn hsum
    go_wp2_with fail
    have n2 : (9223372036854775807 < (bs P0).size + 3) = False := eq_false (by omega)
    have n3 : (9223372036854775807 < (bs P0).size + 3 + (bs P1).size) = False := eq_false (by omega)
    go_region_held3 (fun W => W.cell? ⟨w.heap.size, 0, none⟩ = some (.int .i64 18) ∧ W.cell? ⟨w.heap.size, 1, none⟩ = some (.string (bs name)) ∧ W.cell? ⟨w.heap.size, 2, none⟩ = some (.string (bs tail)) ∧ W.cell? ⟨w.heap.size, 3, none⟩ = some (.int .i64 ty) ∧ W.cell? ⟨w.heap.size, 4, none⟩ = some (.complex .f64 (fl p) (fl q)) ∧ W.cell? ⟨w.heap.size, 5, none⟩ = some (.slice ao xs.length c) ∧ W.cell? ⟨w.heap.size, 6, none⟩ = some (.int .i64 pos) ) (first | (with_reducible exact s1) | (with_reducible exact sD) | (with_reducible assumption)) (first
      | (go_at_call 39; with_reducible refine Calls.mono (m0 _ (by assumption)) ?_; rintro r wz0 ⟨rfl, hbz⟩; have hBz0 := Below.thn (show Below W1.heap.size W1 _ by assumption) hbz; have sz0 := sB wz0 hBz0; clear hbz)
      | (go_at_call 39; with_reducible refine Calls.mono (m1 _ (by assumption)) ?_; rintro r wz1 ⟨rfl, hbz⟩; have hBz1 := Below.thn (show Below W1.heap.size W1 _ by assumption) hbz; have sz1 := sB wz1 hBz1; clear hbz)
      | fail)
    all_goals
      have HBL : Hid (Below w.heap.size w _) := Below.thn HB1.out hBz1
      clear s1 sD hBz1
      go_wp2_with fail
      go_ret
      refine ⟨?_, HBL.out⟩
      rw [shE_mk, show fm 18 name tail ty p q (shL xs) = pt (shL xs) 0 2 ++ [32, 58, 32] ++ pt (shL xs) 1 1 from (by simp [fm, loL, roL, signT])]
      have hx9 := HPX.out
      obtain ⟨e0, e1⟩ := hx9
      rw [e0, e1]
      simp only [← bs_app]
      rfl

set_option maxHeartbeats 4000000 in
theorem rx_op12 {w : World} {A : Nat → Prop} {name tail : List UInt8} {ty p q : Int} {xs : List Ex} {pos : Nat} {es : List Value} (hx : ExW w A (.mk 12 name tail ty p q xs pos) es) (hlen : (shE (.mk 12 name tail ty p q xs pos)).length ≤ 140737488355328) (hp : RpC (.mk 12 name tail ty p q xs pos) xs) (hn : xs.length = 2) : RxE (.mk 12 name tail ty p q xs pos) w es := by
  have hsum := hlen
  rw [shE_mk, show fm 12 name tail ty p q (shL xs) = pt (shL xs) 0 3 ++ [32, 61, 61, 32] ++ pt (shL xs) 1 3 from (by simp [fm, loL, roL, signT])] at hsum
  generalize hP0 : pt (shL xs) 0 3 = P0 at hsum
  generalize hP1 : pt (shL xs) 1 3 = P1 at hsum
  simp only [List.length_append, List.length_cons, List.length_nil] at hsum
  clear hlen
  unfold RxE
  have hxx := hx
  have HN : Hid (xs.length = 2) := hn
  have HSU : Hid (_ ≤ 140737488355328) := hsum
  clear hn hsum
  cases hx with
  | mk hl =>
    rename_i ao c
    have hb1 := below_alloc w (.cells #[.int .i64 12, .string (bs name), .string (bs tail), .int .i64 ty, .complex .f64 (fl p) (fl q), .slice ao xs.length c, .int .i64 pos] 53)
    have hE1 := Bk.new w 53 #[.int .i64 12, .string (bs name), .string (bs tail), .int .i64 ty, .complex .f64 (fl p) (fl q), .slice ao xs.length c, .int .i64 pos]
    generalize hW : w.alloc (.cells #[.int .i64 12, .string (bs name), .string (bs tail), .int .i64 ty, .complex .f64 (fl p) (fl q), .slice ao xs.length c, .int .i64 pos] 53) = W1 at *
    have HX1 : Hid (ExW W1 A (.mk 12 name tail ty p q xs pos) [.int .i64 12, .string (bs name), .string (bs tail), .int .i64 ty, .complex .f64 (fl p) (fl q), .slice ao xs.length c, .int .i64 pos]) := hxx.up hb1
    have HB1 : Hid (Below w.heap.size w W1) := hb1
    have HE1 : Hid (Bk W1 w.heap.size 53 [.int .i64 12, .string (bs name), .string (bs tail), .int .i64 ty, .complex .f64 (fl p) (fl q), .slice ao xs.length c, .int .i64 pos]) := hE1
    have hsg : Calls Tryz.prog 38 #[.int .i64 12] W1 fun e w' => e = .returned (.tuple #[.string ⟨#[32, 61, 61, 32]⟩, .int .i64 3, .int .i64 3]) ∧ w' = W1 := rsign_w (op := 12) (by unfold OpIn; omega) W1
    clear hl hb1 hE1 hxx
    go_enter Tryz.func23, Tryz.ntmps23
    go_upto_region 1 with fail
    first | rw [hW] | skip
    clear hW
    obtain ⟨c0, c1, c2, c3, c4, c5, c6⟩ := Bk.seven (show Bk W1 w.heap.size 53 [_, _, _, _, _, _, _] from HE1.out)
    go_wp2_with fail
    refine hsg.mono ?_
    rintro r wq ⟨rfl, hwq⟩
    rw [hwq]
    clear hwq hsg
    have hsum := HSU.out
    have hn := HN.out
    have z2 : (bs P0).size + 4 ≤ 9223372036854775807 := by simp only [bs_size]; omega
    have z3 : (bs P0).size + 4 + (bs P1).size ≤ 9223372036854775807 := by simp only [bs_size]; omega
    have m0 : ∀ W, Below W1.heap.size W1 W → Calls Tryz.prog 39 #[.agg #[.int .i64 12, .string (bs name), .string (bs tail), .int .i64 ty, .complex .f64 (fl p) (fl q), .slice ao xs.length c, .int .i64 pos], .int .i64 0, .int .i64 3] W fun r w' => r = .returned (.string (bs P0)) ∧ Below W.heap.size W w' := fun W hW => by rw [← hP0]; exact hp W A _ (HX1.out.up hW) 0 3 (by omega)
    have m1 : ∀ W, Below W1.heap.size W1 W → Calls Tryz.prog 39 #[.agg #[.int .i64 12, .string (bs name), .string (bs tail), .int .i64 ty, .complex .f64 (fl p) (fl q), .slice ao xs.length c, .int .i64 pos], .int .i64 1, .int .i64 3] W fun r w' => r = .returned (.string (bs P1)) ∧ Below W.heap.size W w' := fun W hW => by rw [← hP1]; exact hp W A _ (HX1.out.up hW) 1 3 (by omega)
    have sB : ∀ W, Below W1.heap.size W1 W → W.cell? ⟨w.heap.size, 0, none⟩ = some (.int .i64 12) ∧ W.cell? ⟨w.heap.size, 1, none⟩ = some (.string (bs name)) ∧ W.cell? ⟨w.heap.size, 2, none⟩ = some (.string (bs tail)) ∧ W.cell? ⟨w.heap.size, 3, none⟩ = some (.int .i64 ty) ∧ W.cell? ⟨w.heap.size, 4, none⟩ = some (.complex .f64 (fl p) (fl q)) ∧ W.cell? ⟨w.heap.size, 5, none⟩ = some (.slice ao xs.length c) ∧ W.cell? ⟨w.heap.size, 6, none⟩ = some (.int .i64 pos)  := fun W h => ⟨(HE1.out.up h).cell 0, (HE1.out.up h).cell 1, (HE1.out.up h).cell 2, (HE1.out.up h).cell 3, (HE1.out.up h).cell 4, (HE1.out.up h).cell 5, (HE1.out.up h).cell 6⟩
    have hB1 := Below.refl W1.heap.size W1
    have hBD := (Below.refl W1.heap.size W1).drew
    have s1 := sB W1 hB1
    have sD := sB W1.drew hBD
    have HPX : Hid (pt (shL xs) 0 3 = P0 ∧ pt (shL xs) 1 3 = P1) := ⟨hP0, hP1⟩
    clear hP0 hP1 hp hn hsum
    go_wp2_with fail
    have n2 : (9223372036854775807 < (bs P0).size + 4) = False := eq_false (by omega)
    have n3 : (9223372036854775807 < (bs P0).size + 4 + (bs P1).size) = False := eq_false (by omega)
    go_region_held3 (fun W => W.cell? ⟨w.heap.size, 0, none⟩ = some (.int .i64 12) ∧ W.cell? ⟨w.heap.size, 1, none⟩ = some (.string (bs name)) ∧ W.cell? ⟨w.heap.size, 2, none⟩ = some (.string (bs tail)) ∧ W.cell? ⟨w.heap.size, 3, none⟩ = some (.int .i64 ty) ∧ W.cell? ⟨w.heap.size, 4, none⟩ = some (.complex .f64 (fl p) (fl q)) ∧ W.cell? ⟨w.heap.size, 5, none⟩ = some (.slice ao xs.length c) ∧ W.cell? ⟨w.heap.size, 6, none⟩ = some (.int .i64 pos) ) (first | (with_reducible exact s1) | (with_reducible exact sD) | (with_reducible assumption)) (first
      | (go_at_call 39; with_reducible refine Calls.mono (m0 _ (by assumption)) ?_; rintro r wz0 ⟨rfl, hbz⟩; have hBz0 := Below.thn (show Below W1.heap.size W1 _ by assumption) hbz; have sz0 := sB wz0 hBz0; clear hbz)
      | (go_at_call 39; with_reducible refine Calls.mono (m1 _ (by assumption)) ?_; rintro r wz1 ⟨rfl, hbz⟩; have hBz1 := Below.thn (show Below W1.heap.size W1 _ by assumption) hbz; have sz1 := sB wz1 hBz1; clear hbz)
      | fail)
    all_goals
      have HBL : Hid (Below w.heap.size w _) := Below.thn HB1.out hBz1
      clear s1 sD hBz1
      go_wp2_with fail
      go_ret
      refine ⟨?_, HBL.out⟩
      rw [shE_mk, show fm 12 name tail ty p q (shL xs) = pt (shL xs) 0 3 ++ [32, 61, 61, 32] ++ pt (shL xs) 1 3 from (by simp [fm, loL, roL, signT])]
      have hx9 := HPX.out
      obtain ⟨e0, e1⟩ := hx9
      rw [e0, e1]
      simp only [← bs_app]
      rfl

set_option maxHeartbeats 4000000 in
theorem rx_op13 {w : World} {A : Nat → Prop} {name tail : List UInt8} {ty p q : Int} {xs : List Ex} {pos : Nat} {es : List Value} (hx : ExW w A (.mk 13 name tail ty p q xs pos) es) (hlen : (shE (.mk 13 name tail ty p q xs pos)).length ≤ 140737488355328) (hp : RpC (.mk 13 name tail ty p q xs pos) xs) (hn : xs.length = 2) : RxE (.mk 13 name tail ty p q xs pos) w es := by
  have hsum := hlen
  rw [shE_mk, show fm 13 name tail ty p q (shL xs) = pt (shL xs) 0 3 ++ [32, 60, 32] ++ pt (shL xs) 1 3 from (by simp [fm, loL, roL, signT])] at hsum
  generalize hP0 : pt (shL xs) 0 3 = P0 at hsum
  generalize hP1 : pt (shL xs) 1 3 = P1 at hsum
  simp only [List.length_append, List.length_cons, List.length_nil] at hsum
  clear hlen
  unfold RxE
  have hxx := hx
  have HN : Hid (xs.length = 2) := hn
  have HSU : Hid (_ ≤ 140737488355328) := hsum
  clear hn hsum
  cases hx with
  | mk hl =>
    rename_i ao c
    have hb1 := below_alloc w (.cells #[.int .i64 13, .string (bs name), .string (bs tail), .int .i64 ty, .complex .f64 (fl p) (fl q), .slice ao xs.length c, .int .i64 pos] 53)
    have hE1 := Bk.new w 53 #[.int .i64 13, .string (bs name), .string (bs tail), .int .i64 ty, .complex .f64 (fl p) (fl q), .slice ao xs.length c, .int .i64 pos]
    generalize hW : w.alloc (.cells #[.int .i64 13, .string (bs name), .string (bs tail), .int .i64 ty, .complex .f64 (fl p) (fl q), .slice ao xs.length c, .int .i64 pos] 53) = W1 at *
    have HX1 : Hid (ExW W1 A (.mk 13 name tail ty p q xs pos) [.int .i64 13, .string (bs name), .string (bs tail), .int .i64 ty, .complex .f64 (fl p) (fl q), .slice ao xs.length c, .int .i64 pos]) := hxx.up hb1
    have HB1 : Hid (Below w.heap.size w W1) := hb1
    have HE1 : Hid (Bk W1 w.heap.size 53 [.int .i64 13, .string (bs name), .string (bs tail), .int .i64 ty, .complex .f64 (fl p) (fl q), .slice ao xs.length c, .int .i64 pos]) := hE1
    have hsg : Calls Tryz.prog 38 #[.int .i64 13] W1 fun e w' => e = .returned (.tuple #[.string ⟨#[32, 60, 32]⟩, .int .i64 3, .int .i64 3]) ∧ w' = W1 := rsign_w (op := 13) (by unfold OpIn; omega) W1
    clear hl hb1 hE1 hxx
    go_enter Tryz.func23, Tryz.ntmps23
    go_upto_region 1 with fail
    first | rw [hW] | skip
    clear hW
    obtain ⟨c0, c1, c2, c3, c4, c5, c6⟩ := Bk.seven (show Bk W1 w.heap.size 53 [_, _, _, _, _, _, _] from HE1.out)
    go_wp2_with fail
    refine hsg.mono ?_
    rintro r wq ⟨rfl, hwq⟩
    rw [hwq]
    clear hwq hsg
    have hsum := HSU.out
    have hn := HN.out
    have z2 : (bs P0).size + 3 ≤ 9223372036854775807 := by simp only [bs_size]; omega
    have z3 : (bs P0).size + 3 + (bs P1).size ≤ 9223372036854775807 := by simp only [bs_size]; omega
    have m0 : ∀ W, Below W1.heap.size W1 W → Calls Tryz.prog 39 #[.agg #[.int .i64 13, .string (bs name), .string (bs tail), .int .i64 ty, .complex .f64 (fl p) (fl q), .slice ao xs.length c, .int .i64 pos], .int .i64 0, .int .i64 3] W fun r w' => r = .returned (.string (bs P0)) ∧ Below W.heap.size W w' := fun W hW => by rw [← hP0]; exact hp W A _ (HX1.out.up hW) 0 3 (by omega)
    have m1 : ∀ W, Below W1.heap.size W1 W → Calls Tryz.prog 39 #[.agg #[.int .i64 13, .string (bs name), .string (bs tail), .int .i64 ty, .complex .f64 (fl p) (fl q), .slice ao xs.length c, .int .i64 pos], .int .i64 1, .int .i64 3] W fun r w' => r = .returned (.string (bs P1)) ∧ Below W.heap.size W w' := fun W hW => by rw [← hP1]; exact hp W A _ (HX1.out.up hW) 1 3 (by omega)
    have sB : ∀ W, Below W1.heap.size W1 W → W.cell? ⟨w.heap.size, 0, none⟩ = some (.int .i64 13) ∧ W.cell? ⟨w.heap.size, 1, none⟩ = some (.string (bs name)) ∧ W.cell? ⟨w.heap.size, 2, none⟩ = some (.string (bs tail)) ∧ W.cell? ⟨w.heap.size, 3, none⟩ = some (.int .i64 ty) ∧ W.cell? ⟨w.heap.size, 4, none⟩ = some (.complex .f64 (fl p) (fl q)) ∧ W.cell? ⟨w.heap.size, 5, none⟩ = some (.slice ao xs.length c) ∧ W.cell? ⟨w.heap.size, 6, none⟩ = some (.int .i64 pos)  := fun W h => ⟨(HE1.out.up h).cell 0, (HE1.out.up h).cell 1, (HE1.out.up h).cell 2, (HE1.out.up h).cell 3, (HE1.out.up h).cell 4, (HE1.out.up h).cell 5, (HE1.out.up h).cell 6⟩
    have hB1 := Below.refl W1.heap.size W1
    have hBD := (Below.refl W1.heap.size W1).drew
    have s1 := sB W1 hB1
    have sD := sB W1.drew hBD
    have HPX : Hid (pt (shL xs) 0 3 = P0 ∧ pt (shL xs) 1 3 = P1) := ⟨hP0, hP1⟩
    clear hP0 hP1 hp hn hsum
    go_wp2_with fail
    have n2 : (9223372036854775807 < (bs P0).size + 3) = False := eq_false (by omega)
    have n3 : (9223372036854775807 < (bs P0).size + 3 + (bs P1).size) = False := eq_false (by omega)
    go_region_held3 (fun W => W.cell? ⟨w.heap.size, 0, none⟩ = some (.int .i64 13) ∧ W.cell? ⟨w.heap.size, 1, none⟩ = some (.string (bs name)) ∧ W.cell? ⟨w.heap.size, 2, none⟩ = some (.string (bs tail)) ∧ W.cell? ⟨w.heap.size, 3, none⟩ = some (.int .i64 ty) ∧ W.cell? ⟨w.heap.size, 4, none⟩ = some (.complex .f64 (fl p) (fl q)) ∧ W.cell? ⟨w.heap.size, 5, none⟩ = some (.slice ao xs.length c) ∧ W.cell? ⟨w.heap.size, 6, none⟩ = some (.int .i64 pos) ) (first | (with_reducible exact s1) | (with_reducible exact sD) | (with_reducible assumption)) (first
      | (go_at_call 39; with_reducible refine Calls.mono (m0 _ (by assumption)) ?_; rintro r wz0 ⟨rfl, hbz⟩; have hBz0 := Below.thn (show Below W1.heap.size W1 _ by assumption) hbz; have sz0 := sB wz0 hBz0; clear hbz)
      | (go_at_call 39; with_reducible refine Calls.mono (m1 _ (by assumption)) ?_; rintro r wz1 ⟨rfl, hbz⟩; have hBz1 := Below.thn (show Below W1.heap.size W1 _ by assumption) hbz; have sz1 := sB wz1 hBz1; clear hbz)
      | fail)
    all_goals
      have HBL : Hid (Below w.heap.size w _) := Below.thn HB1.out hBz1
      clear s1 sD hBz1
      go_wp2_with fail
      go_ret
      refine ⟨?_, HBL.out⟩
      rw [shE_mk, show fm 13 name tail ty p q (shL xs) = pt (shL xs) 0 3 ++ [32, 60, 32] ++ pt (shL xs) 1 3 from (by simp [fm, loL, roL, signT])]
      have hx9 := HPX.out
      obtain ⟨e0, e1⟩ := hx9
      rw [e0, e1]
      simp only [← bs_app]
      rfl

set_option maxHeartbeats 4000000 in
theorem rx_op8 {w : World} {A : Nat → Prop} {name tail : List UInt8} {ty p q : Int} {xs : List Ex} {pos : Nat} {es : List Value} (hx : ExW w A (.mk 8 name tail ty p q xs pos) es) (hlen : (shE (.mk 8 name tail ty p q xs pos)).length ≤ 140737488355328) (hp : RpC (.mk 8 name tail ty p q xs pos) xs) (hn : xs.length = 2) : RxE (.mk 8 name tail ty p q xs pos) w es := by
  have hsum := hlen
  rw [shE_mk, show fm 8 name tail ty p q (shL xs) = pt (shL xs) 0 3 ++ [32, 43, 32] ++ pt (shL xs) 1 4 from (by simp [fm, loL, roL, signT, lvl])] at hsum
  generalize hP0 : pt (shL xs) 0 3 = P0 at hsum
  generalize hP1 : pt (shL xs) 1 4 = P1 at hsum
  simp only [List.length_append, List.length_cons, List.length_nil] at hsum
  clear hlen
  unfold RxE
  have hxx := hx
  have HN : Hid (xs.length = 2) := hn
  have HSU : Hid (_ ≤ 140737488355328) := hsum
  clear hn hsum
  cases hx with
  | mk hl =>
    rename_i ao c
    have hb1 := below_alloc w (.cells #[.int .i64 8, .string (bs name), .string (bs tail), .int .i64 ty, .complex .f64 (fl p) (fl q), .slice ao xs.length c, .int .i64 pos] 53)
    have hE1 := Bk.new w 53 #[.int .i64 8, .string (bs name), .string (bs tail), .int .i64 ty, .complex .f64 (fl p) (fl q), .slice ao xs.length c, .int .i64 pos]
    generalize hW : w.alloc (.cells #[.int .i64 8, .string (bs name), .string (bs tail), .int .i64 ty, .complex .f64 (fl p) (fl q), .slice ao xs.length c, .int .i64 pos] 53) = W1 at *
    have HX1 : Hid (ExW W1 A (.mk 8 name tail ty p q xs pos) [.int .i64 8, .string (bs name), .string (bs tail), .int .i64 ty, .complex .f64 (fl p) (fl q), .slice ao xs.length c, .int .i64 pos]) := hxx.up hb1
    have HB1 : Hid (Below w.heap.size w W1) := hb1
    have HE1 : Hid (Bk W1 w.heap.size 53 [.int .i64 8, .string (bs name), .string (bs tail), .int .i64 ty, .complex .f64 (fl p) (fl q), .slice ao xs.length c, .int .i64 pos]) := hE1
    have hsg : Calls Tryz.prog 38 #[.int .i64 8] W1 fun e w' => e = .returned (.tuple #[.string ⟨#[32, 43, 32]⟩, .int .i64 3, .int .i64 4]) ∧ w' = W1 := rsign_w (op := 8) (by unfold OpIn; omega) W1
    clear hl hb1 hE1 hxx
    go_enter Tryz.func23, Tryz.ntmps23
    go_upto_region 1 with fail
    first | rw [hW] | skip
    clear hW
    obtain ⟨c0, c1, c2, c3, c4, c5, c6⟩ := Bk.seven (show Bk W1 w.heap.size 53 [_, _, _, _, _, _, _] from HE1.out)
    go_wp2_with fail
    refine hsg.mono ?_
    rintro r wq ⟨rfl, hwq⟩
    rw [hwq]
    clear hwq hsg
    have hsum := HSU.out
    have hn := HN.out
    have z2 : (bs P0).size + 3 ≤ 9223372036854775807 := by simp only [bs_size]; omega
    have z3 : (bs P0).size + 3 + (bs P1).size ≤ 9223372036854775807 := by simp only [bs_size]; omega
    have m0 : ∀ W, Below W1.heap.size W1 W → Calls Tryz.prog 39 #[.agg #[.int .i64 8, .string (bs name), .string (bs tail), .int .i64 ty, .complex .f64 (fl p) (fl q), .slice ao xs.length c, .int .i64 pos], .int .i64 0, .int .i64 3] W fun r w' => r = .returned (.string (bs P0)) ∧ Below W.heap.size W w' := fun W hW => by rw [← hP0]; exact hp W A _ (HX1.out.up hW) 0 3 (by omega)
    have m1 : ∀ W, Below W1.heap.size W1 W → Calls Tryz.prog 39 #[.agg #[.int .i64 8, .string (bs name), .string (bs tail), .int .i64 ty, .complex .f64 (fl p) (fl q), .slice ao xs.length c, .int .i64 pos], .int .i64 1, .int .i64 4] W fun r w' => r = .returned (.string (bs P1)) ∧ Below W.heap.size W w' := fun W hW => by rw [← hP1]; exact hp W A _ (HX1.out.up hW) 1 4 (by omega)
    have sB : ∀ W, Below W1.heap.size W1 W → W.cell? ⟨w.heap.size, 0, none⟩ = some (.int .i64 8) ∧ W.cell? ⟨w.heap.size, 1, none⟩ = some (.string (bs name)) ∧ W.cell? ⟨w.heap.size, 2, none⟩ = some (.string (bs tail)) ∧ W.cell? ⟨w.heap.size, 3, none⟩ = some (.int .i64 ty) ∧ W.cell? ⟨w.heap.size, 4, none⟩ = some (.complex .f64 (fl p) (fl q)) ∧ W.cell? ⟨w.heap.size, 5, none⟩ = some (.slice ao xs.length c) ∧ W.cell? ⟨w.heap.size, 6, none⟩ = some (.int .i64 pos)  := fun W h => ⟨(HE1.out.up h).cell 0, (HE1.out.up h).cell 1, (HE1.out.up h).cell 2, (HE1.out.up h).cell 3, (HE1.out.up h).cell 4, (HE1.out.up h).cell 5, (HE1.out.up h).cell 6⟩
    have hB1 := Below.refl W1.heap.size W1
    have hBD := (Below.refl W1.heap.size W1).drew
    have s1 := sB W1 hB1
    have sD := sB W1.drew hBD
    have HPX : Hid (pt (shL xs) 0 3 = P0 ∧ pt (shL xs) 1 4 = P1) := ⟨hP0, hP1⟩
    clear hP0 hP1 hp hn hsum
    go_wp2_with fail
    have n2 : (9223372036854775807 < (bs P0).size + 3) = False := eq_false (by omega)
    have n3 : (9223372036854775807 < (bs P0).size + 3 + (bs P1).size) = False := eq_false (by omega)
    go_region_held3 (fun W => W.cell? ⟨w.heap.size, 0, none⟩ = some (.int .i64 8) ∧ W.cell? ⟨w.heap.size, 1, none⟩ = some (.string (bs name)) ∧ W.cell? ⟨w.heap.size, 2, none⟩ = some (.string (bs tail)) ∧ W.cell? ⟨w.heap.size, 3, none⟩ = some (.int .i64 ty) ∧ W.cell? ⟨w.heap.size, 4, none⟩ = some (.complex .f64 (fl p) (fl q)) ∧ W.cell? ⟨w.heap.size, 5, none⟩ = some (.slice ao xs.length c) ∧ W.cell? ⟨w.heap.size, 6, none⟩ = some (.int .i64 pos) ) (first | (with_reducible exact s1) | (with_reducible exact sD) | (with_reducible assumption)) (first
      | (go_at_call 39; with_reducible refine Calls.mono (m0 _ (by assumption)) ?_; rintro r wz0 ⟨rfl, hbz⟩; have hBz0 := Below.thn (show Below W1.heap.size W1 _ by assumption) hbz; have sz0 := sB wz0 hBz0; clear hbz)
      | (go_at_call 39; with_reducible refine Calls.mono (m1 _ (by assumption)) ?_; rintro r wz1 ⟨rfl, hbz⟩; have hBz1 := Below.thn (show Below W1.heap.size W1 _ by assumption) hbz; have sz1 := sB wz1 hBz1; clear hbz)
      | fail)
    all_goals
      have HBL : Hid (Below w.heap.size w _) := Below.thn HB1.out hBz1
      clear s1 sD hBz1
      go_wp2_with fail
      go_ret
      refine ⟨?_, HBL.out⟩
      rw [shE_mk, show fm 8 name tail ty p q (shL xs) = pt (shL xs) 0 3 ++ [32, 43, 32] ++ pt (shL xs) 1 4 from (by simp [fm, loL, roL, signT, lvl])]
      have hx9 := HPX.out
      obtain ⟨e0, e1⟩ := hx9
      rw [e0, e1]
      simp only [← bs_app]
      rfl

set_option maxHeartbeats 4000000 in
theorem rx_op9 {w : World} {A : Nat → Prop} {name tail : List UInt8} {ty p q : Int} {xs : List Ex} {pos : Nat} {es : List Value} (hx : ExW w A (.mk 9 name tail ty p q xs pos) es) (hlen : (shE (.mk 9 name tail ty p q xs pos)).length ≤ 140737488355328) (hp : RpC (.mk 9 name tail ty p q xs pos) xs) (hn : xs.length = 2) : RxE (.mk 9 name tail ty p q xs pos) w es := by
  have hsum := hlen
  rw [shE_mk, show fm 9 name tail ty p q (shL xs) = pt (shL xs) 0 3 ++ [32, 45, 32] ++ pt (shL xs) 1 4 from (by simp [fm, loL, roL, signT, lvl])] at hsum
  generalize hP0 : pt (shL xs) 0 3 = P0 at hsum
  generalize hP1 : pt (shL xs) 1 4 = P1 at hsum
  simp only [List.length_append, List.length_cons, List.length_nil] at hsum
  clear hlen
  unfold RxE
  have hxx := hx
  have HN : Hid (xs.length = 2) := hn
  have HSU : Hid (_ ≤ 140737488355328) := hsum
  clear hn hsum
  cases hx with
  | mk hl =>
    rename_i ao c
    have hb1 := below_alloc w (.cells #[.int .i64 9, .string (bs name), .string (bs tail), .int .i64 ty, .complex .f64 (fl p) (fl q), .slice ao xs.length c, .int .i64 pos] 53)
    have hE1 := Bk.new w 53 #[.int .i64 9, .string (bs name), .string (bs tail), .int .i64 ty, .complex .f64 (fl p) (fl q), .slice ao xs.length c, .int .i64 pos]
    generalize hW : w.alloc (.cells #[.int .i64 9, .string (bs name), .string (bs tail), .int .i64 ty, .complex .f64 (fl p) (fl q), .slice ao xs.length c, .int .i64 pos] 53) = W1 at *
    have HX1 : Hid (ExW W1 A (.mk 9 name tail ty p q xs pos) [.int .i64 9, .string (bs name), .string (bs tail), .int .i64 ty, .complex .f64 (fl p) (fl q), .slice ao xs.length c, .int .i64 pos]) := hxx.up hb1
    have HB1 : Hid (Below w.heap.size w W1) := hb1
    have HE1 : Hid (Bk W1 w.heap.size 53 [.int .i64 9, .string (bs name), .string (bs tail), .int .i64 ty, .complex .f64 (fl p) (fl q), .slice ao xs.length c, .int .i64 pos]) := hE1
    have hsg : Calls Tryz.prog 38 #[.int .i64 9] W1 fun e w' => e = .returned (.tuple #[.string ⟨#[32, 45, 32]⟩, .int .i64 3, .int .i64 4]) ∧ w' = W1 := rsign_w (op := 9) (by unfold OpIn; omega) W1
    clear hl hb1 hE1 hxx
    go_enter Tryz.func23, Tryz.ntmps23
    go_upto_region 1 with fail
    first | rw [hW] | skip
    clear hW
    obtain ⟨c0, c1, c2, c3, c4, c5, c6⟩ := Bk.seven (show Bk W1 w.heap.size 53 [_, _, _, _, _, _, _] from HE1.out)
    go_wp2_with fail
    refine hsg.mono ?_
    rintro r wq ⟨rfl, hwq⟩
    rw [hwq]
    clear hwq hsg
    have hsum := HSU.out
    have hn := HN.out
    have z2 : (bs P0).size + 3 ≤ 9223372036854775807 := by simp only [bs_size]; omega
    have z3 : (bs P0).size + 3 + (bs P1).size ≤ 9223372036854775807 := by simp only [bs_size]; omega
    have m0 : ∀ W, Below W1.heap.size W1 W → Calls Tryz.prog 39 #[.agg #[.int .i64 9, .string (bs name), .string (bs tail), .int .i64 ty, .complex .f64 (fl p) (fl q), .slice ao xs.length c, .int .i64 pos], .int .i64 0, .int .i64 3] W fun r w' => r = .returned (.string (bs P0)) ∧ Below W.heap.size W w' := fun W hW => by rw [← hP0]; exact hp W A _ (HX1.out.up hW) 0 3 (by omega)
    have m1 : ∀ W, Below W1.heap.size W1 W → Calls Tryz.prog 39 #[.agg #[.int .i64 9, .string (bs name), .string (bs tail), .int .i64 ty, .complex .f64 (fl p) (fl q), .slice ao xs.length c, .int .i64 pos], .int .i64 1, .int .i64 4] W fun r w' => r = .returned (.string (bs P1)) ∧ Below W.heap.size W w' := fun W hW => by rw [← hP1]; exact hp W A _ (HX1.out.up hW) 1 4 (by omega)
    have sB : ∀ W, Below W1.heap.size W1 W → W.cell? ⟨w.heap.size, 0, none⟩ = some (.int .i64 9) ∧ W.cell? ⟨w.heap.size, 1, none⟩ = some (.string (bs name)) ∧ W.cell? ⟨w.heap.size, 2, none⟩ = some (.string (bs tail)) ∧ W.cell? ⟨w.heap.size, 3, none⟩ = some (.int .i64 ty) ∧ W.cell? ⟨w.heap.size, 4, none⟩ = some (.complex .f64 (fl p) (fl q)) ∧ W.cell? ⟨w.heap.size, 5, none⟩ = some (.slice ao xs.length c) ∧ W.cell? ⟨w.heap.size, 6, none⟩ = some (.int .i64 pos)  := fun W h => ⟨(HE1.out.up h).cell 0, (HE1.out.up h).cell 1, (HE1.out.up h).cell 2, (HE1.out.up h).cell 3, (HE1.out.up h).cell 4, (HE1.out.up h).cell 5, (HE1.out.up h).cell 6⟩
    have hB1 := Below.refl W1.heap.size W1
    have hBD := (Below.refl W1.heap.size W1).drew
    have s1 := sB W1 hB1
    have sD := sB W1.drew hBD
    have HPX : Hid (pt (shL xs) 0 3 = P0 ∧ pt (shL xs) 1 4 = P1) := ⟨hP0, hP1⟩
    clear hP0 hP1 hp hn hsum
    go_wp2_with fail
    have n2 : (9223372036854775807 < (bs P0).size + 3) = False := eq_false (by omega)
    have n3 : (9223372036854775807 < (bs P0).size + 3 + (bs P1).size) = False := eq_false (by omega)
    go_region_held3 (fun W => W.cell? ⟨w.heap.size, 0, none⟩ = some (.int .i64 9) ∧ W.cell? ⟨w.heap.size, 1, none⟩ = some (.string (bs name)) ∧ W.cell? ⟨w.heap.size, 2, none⟩ = some (.string (bs tail)) ∧ W.cell? ⟨w.heap.size, 3, none⟩ = some (.int .i64 ty) ∧ W.cell? ⟨w.heap.size, 4, none⟩ = some (.complex .f64 (fl p) (fl q)) ∧ W.cell? ⟨w.heap.size, 5, none⟩ = some (.slice ao xs.length c) ∧ W.cell? ⟨w.heap.size, 6, none⟩ = some (.int .i64 pos) ) (first | (with_reducible exact s1) | (with_reducible exact sD) | (with_reducible assumption)) (first
      | (go_at_call 39; with_reducible refine Calls.mono (m0 _ (by assumption)) ?_; rintro r wz0 ⟨rfl, hbz⟩; have hBz0 := Below.thn (show Below W1.heap.size W1 _ by assumption) hbz; have sz0 := sB wz0 hBz0; clear hbz)
      | (go_at_call 39; with_reducible refine Calls.mono (m1 _ (by assumption)) ?_; rintro r wz1 ⟨rfl, hbz⟩; have hBz1 := Below.thn (show Below W1.heap.size W1 _ by assumption) hbz; have sz1 := sB wz1 hBz1; clear hbz)
      | fail)
    all_goals
      have HBL : Hid (Below w.heap.size w _) := Below.thn HB1.out hBz1
      clear s1 sD hBz1
      go_wp2_with fail
      go_ret
      refine ⟨?_, HBL.out⟩
      rw [shE_mk, show fm 9 name tail ty p q (shL xs) = pt (shL xs) 0 3 ++ [32, 45, 32] ++ pt (shL xs) 1 4 from (by simp [fm, loL, roL, signT, lvl])]
      have hx9 := HPX.out
      obtain ⟨e0, e1⟩ := hx9
      rw [e0, e1]
      simp only [← bs_app]
      rfl

set_option maxHeartbeats 4000000 in
theorem rx_op10 {w : World} {A : Nat → Prop} {name tail : List UInt8} {ty p q : Int} {xs : List Ex} {pos : Nat} {es : List Value} (hx : ExW w A (.mk 10 name tail ty p q xs pos) es) (hlen : (shE (.mk 10 name tail ty p q xs pos)).length ≤ 140737488355328) (hp : RpC (.mk 10 name tail ty p q xs pos) xs) (hn : xs.length = 2) : RxE (.mk 10 name tail ty p q xs pos) w es := by
  have hsum := hlen
  rw [shE_mk, show fm 10 name tail ty p q (shL xs) = pt (shL xs) 0 4 ++ [32, 42, 32] ++ pt (shL xs) 1 5 from (by simp [fm, loL, roL, signT, lvl])] at hsum
  generalize hP0 : pt (shL xs) 0 4 = P0 at hsum
  generalize hP1 : pt (shL xs) 1 5 = P1 at hsum
  simp only [List.length_append, List.length_cons, List.length_nil] at hsum
  clear hlen
  unfold RxE
  have hxx := hx
  have HN : Hid (xs.length = 2) := hn
  have HSU : Hid (_ ≤ 140737488355328) := hsum
  clear hn hsum
  cases hx with
  | mk hl =>
    rename_i ao c
    have hb1 := below_alloc w (.cells #[.int .i64 10, .string (bs name), .string (bs tail), .int .i64 ty, .complex .f64 (fl p) (fl q), .slice ao xs.length c, .int .i64 pos] 53)
    have hE1 := Bk.new w 53 #[.int .i64 10, .string (bs name), .string (bs tail), .int .i64 ty, .complex .f64 (fl p) (fl q), .slice ao xs.length c, .int .i64 pos]
    generalize hW : w.alloc (.cells #[.int .i64 10, .string (bs name), .string (bs tail), .int .i64 ty, .complex .f64 (fl p) (fl q), .slice ao xs.length c, .int .i64 pos] 53) = W1 at *
    have HX1 : Hid (ExW W1 A (.mk 10 name tail ty p q xs pos) [.int .i64 10, .string (bs name), .string (bs tail), .int .i64 ty, .complex .f64 (fl p) (fl q), .slice ao xs.length c, .int .i64 pos]) := hxx.up hb1
    have HB1 : Hid (Below w.heap.size w W1) := hb1
    have HE1 : Hid (Bk W1 w.heap.size 53 [.int .i64 10, .string (bs name), .string (bs tail), .int .i64 ty, .complex .f64 (fl p) (fl q), .slice ao xs.length c, .int .i64 pos]) := hE1
    have hsg : Calls Tryz.prog 38 #[.int .i64 10] W1 fun e w' => e = .returned (.tuple #[.string ⟨#[32, 42, 32]⟩, .int .i64 4, .int .i64 5]) ∧ w' = W1 := rsign_w (op := 10) (by unfold OpIn; omega) W1
    clear hl hb1 hE1 hxx
    go_enter Tryz.func23, Tryz.ntmps23
    go_upto_region 1 with fail
    first | rw [hW] | skip
    clear hW
    obtain ⟨c0, c1, c2, c3, c4, c5, c6⟩ := Bk.seven (show Bk W1 w.heap.size 53 [_, _, _, _, _, _, _] from HE1.out)
    go_wp2_with fail
    refine hsg.mono ?_
    rintro r wq ⟨rfl, hwq⟩
    rw [hwq]
    clear hwq hsg
    have hsum := HSU.out
    have hn := HN.out
    have z2 : (bs P0).size + 3 ≤ 9223372036854775807 := by simp only [bs_size]; omega
    have z3 : (bs P0).size + 3 + (bs P1).size ≤ 9223372036854775807 := by simp only [bs_size]; omega
    have m0 : ∀ W, Below W1.heap.size W1 W → Calls Tryz.prog 39 #[.agg #[.int .i64 10, .string (bs name), .string (bs tail), .int .i64 ty, .complex .f64 (fl p) (fl q), .slice ao xs.length c, .int .i64 pos], .int .i64 0, .int .i64 4] W fun r w' => r = .returned (.string (bs P0)) ∧ Below W.heap.size W w' := fun W hW => by rw [← hP0]; exact hp W A _ (HX1.out.up hW) 0 4 (by omega)
    have m1 : ∀ W, Below W1.heap.size W1 W → Calls Tryz.prog 39 #[.agg #[.int .i64 10, .string (bs name), .string (bs tail), .int .i64 ty, .complex .f64 (fl p) (fl q), .slice ao xs.length c, .int .i64 pos], .int .i64 1, .int .i64 5] W fun r w' => r = .returned (.string (bs P1)) ∧ Below W.heap.size W w' := fun W hW => by rw [← hP1]; exact hp W A _ (HX1.out.up hW) 1 5 (by omega)
    have sB : ∀ W, Below W1.heap.size W1 W → W.cell? ⟨w.heap.size, 0, none⟩ = some (.int .i64 10) ∧ W.cell? ⟨w.heap.size, 1, none⟩ = some (.string (bs name)) ∧ W.cell? ⟨w.heap.size, 2, none⟩ = some (.string (bs tail)) ∧ W.cell? ⟨w.heap.size, 3, none⟩ = some (.int .i64 ty) ∧ W.cell? ⟨w.heap.size, 4, none⟩ = some (.complex .f64 (fl p) (fl q)) ∧ W.cell? ⟨w.heap.size, 5, none⟩ = some (.slice ao xs.length c) ∧ W.cell? ⟨w.heap.size, 6, none⟩ = some (.int .i64 pos)  := fun W h => ⟨(HE1.out.up h).cell 0, (HE1.out.up h).cell 1, (HE1.out.up h).cell 2, (HE1.out.up h).cell 3, (HE1.out.up h).cell 4, (HE1.out.up h).cell 5, (HE1.out.up h).cell 6⟩
    have hB1 := Below.refl W1.heap.size W1
    have hBD := (Below.refl W1.heap.size W1).drew
    have s1 := sB W1 hB1
    have sD := sB W1.drew hBD
    have HPX : Hid (pt (shL xs) 0 4 = P0 ∧ pt (shL xs) 1 5 = P1) := ⟨hP0, hP1⟩
    clear hP0 hP1 hp hn hsum
    go_wp2_with fail
    have n2 : (9223372036854775807 < (bs P0).size + 3) = False := eq_false (by omega)
    have n3 : (9223372036854775807 < (bs P0).size + 3 + (bs P1).size) = False := eq_false (by omega)
    go_region_held3 (fun W => W.cell? ⟨w.heap.size, 0, none⟩ = some (.int .i64 10) ∧ W.cell? ⟨w.heap.size, 1, none⟩ = some (.string (bs name)) ∧ W.cell? ⟨w.heap.size, 2, none⟩ = some (.string (bs tail)) ∧ W.cell? ⟨w.heap.size, 3, none⟩ = some (.int .i64 ty) ∧ W.cell? ⟨w.heap.size, 4, none⟩ = some (.complex .f64 (fl p) (fl q)) ∧ W.cell? ⟨w.heap.size, 5, none⟩ = some (.slice ao xs.length c) ∧ W.cell? ⟨w.heap.size, 6, none⟩ = some (.int .i64 pos) ) (first | (with_reducible exact s1) | (with_reducible exact sD) | (with_reducible assumption)) (first
      | (go_at_call 39; with_reducible refine Calls.mono (m0 _ (by assumption)) ?_; rintro r wz0 ⟨rfl, hbz⟩; have hBz0 := Below.thn (show Below W1.heap.size W1 _ by assumption) hbz; have sz0 := sB wz0 hBz0; clear hbz)
      | (go_at_call 39; with_reducible refine Calls.mono (m1 _ (by assumption)) ?_; rintro r wz1 ⟨rfl, hbz⟩; have hBz1 := Below.thn (show Below W1.heap.size W1 _ by assumption) hbz; have sz1 := sB wz1 hBz1; clear hbz)
      | fail)
    all_goals
      have HBL : Hid (Below w.heap.size w _) := Below.thn HB1.out hBz1
      clear s1 sD hBz1
      go_wp2_with fail
      go_ret
      refine ⟨?_, HBL.out⟩
      rw [shE_mk, show fm 10 name tail ty p q (shL xs) = pt (shL xs) 0 4 ++ [32, 42, 32] ++ pt (shL xs) 1 5 from (by simp [fm, loL, roL, signT, lvl])]
      have hx9 := HPX.out
      obtain ⟨e0, e1⟩ := hx9
      rw [e0, e1]
      simp only [← bs_app]
      rfl

set_option maxHeartbeats 4000000 in
theorem rx_op11 {w : World} {A : Nat → Prop} {name tail : List UInt8} {ty p q : Int} {xs : List Ex} {pos : Nat} {es : List Value} (hx : ExW w A (.mk 11 name tail ty p q xs pos) es) (hlen : (shE (.mk 11 name tail ty p q xs pos)).length ≤ 140737488355328) (hp : RpC (.mk 11 name tail ty p q xs pos) xs) (hn : xs.length = 2) : RxE (.mk 11 name tail ty p q xs pos) w es := by
  have hsum := hlen
  rw [shE_mk, show fm 11 name tail ty p q (shL xs) = pt (shL xs) 0 4 ++ [32, 47, 32] ++ pt (shL xs) 1 5 from (by simp [fm, loL, roL, signT, lvl])] at hsum
  generalize hP0 : pt (shL xs) 0 4 = P0 at hsum
  generalize hP1 : pt (shL xs) 1 5 = P1 at hsum
  simp only [List.length_append, List.length_cons, List.length_nil] at hsum
  clear hlen
  unfold RxE
  have hxx := hx
  have HN : Hid (xs.length = 2) := hn
  have HSU : Hid (_ ≤ 140737488355328) := hsum
  clear hn hsum
  cases hx with
  | mk hl =>
    rename_i ao c
    have hb1 := below_alloc w (.cells #[.int .i64 11, .string (bs name), .string (bs tail), .int .i64 ty, .complex .f64 (fl p) (fl q), .slice ao xs.length c, .int .i64 pos] 53)
    have hE1 := Bk.new w 53 #[.int .i64 11, .string (bs name), .string (bs tail), .int .i64 ty, .complex .f64 (fl p) (fl q), .slice ao xs.length c, .int .i64 pos]
    generalize hW : w.alloc (.cells #[.int .i64 11, .string (bs name), .string (bs tail), .int .i64 ty, .complex .f64 (fl p) (fl q), .slice ao xs.length c, .int .i64 pos] 53) = W1 at *
    have HX1 : Hid (ExW W1 A (.mk 11 name tail ty p q xs pos) [.int .i64 11, .string (bs name), .string (bs tail), .int .i64 ty, .complex .f64 (fl p) (fl q), .slice ao xs.length c, .int .i64 pos]) := hxx.up hb1
    have HB1 : Hid (Below w.heap.size w W1) := hb1
    have HE1 : Hid (Bk W1 w.heap.size 53 [.int .i64 11, .string (bs name), .string (bs tail), .int .i64 ty, .complex .f64 (fl p) (fl q), .slice ao xs.length c, .int .i64 pos]) := hE1
    have hsg : Calls Tryz.prog 38 #[.int .i64 11] W1 fun e w' => e = .returned (.tuple #[.string ⟨#[32, 47, 32]⟩, .int .i64 4, .int .i64 5]) ∧ w' = W1 := rsign_w (op := 11) (by unfold OpIn; omega) W1
    clear hl hb1 hE1 hxx
    go_enter Tryz.func23, Tryz.ntmps23
    go_upto_region 1 with fail
    first | rw [hW] | skip
    clear hW
    obtain ⟨c0, c1, c2, c3, c4, c5, c6⟩ := Bk.seven (show Bk W1 w.heap.size 53 [_, _, _, _, _, _, _] from HE1.out)
    go_wp2_with fail
    refine hsg.mono ?_
    rintro r wq ⟨rfl, hwq⟩
    rw [hwq]
    clear hwq hsg
    have hsum := HSU.out
    have hn := HN.out
    have z2 : (bs P0).size + 3 ≤ 9223372036854775807 := by simp only [bs_size]; omega
    have z3 : (bs P0).size + 3 + (bs P1).size ≤ 9223372036854775807 := by simp only [bs_size]; omega
    have m0 : ∀ W, Below W1.heap.size W1 W → Calls Tryz.prog 39 #[.agg #[.int .i64 11, .string (bs name), .string (bs tail), .int .i64 ty, .complex .f64 (fl p) (fl q), .slice ao xs.length c, .int .i64 pos], .int .i64 0, .int .i64 4] W fun r w' => r = .returned (.string (bs P0)) ∧ Below W.heap.size W w' := fun W hW => by rw [← hP0]; exact hp W A _ (HX1.out.up hW) 0 4 (by omega)
    have m1 : ∀ W, Below W1.heap.size W1 W → Calls Tryz.prog 39 #[.agg #[.int .i64 11, .string (bs name), .string (bs tail), .int .i64 ty, .complex .f64 (fl p) (fl q), .slice ao xs.length c, .int .i64 pos], .int .i64 1, .int .i64 5] W fun r w' => r = .returned (.string (bs P1)) ∧ Below W.heap.size W w' := fun W hW => by rw [← hP1]; exact hp W A _ (HX1.out.up hW) 1 5 (by omega)
    have sB : ∀ W, Below W1.heap.size W1 W → W.cell? ⟨w.heap.size, 0, none⟩ = some (.int .i64 11) ∧ W.cell? ⟨w.heap.size, 1, none⟩ = some (.string (bs name)) ∧ W.cell? ⟨w.heap.size, 2, none⟩ = some (.string (bs tail)) ∧ W.cell? ⟨w.heap.size, 3, none⟩ = some (.int .i64 ty) ∧ W.cell? ⟨w.heap.size, 4, none⟩ = some (.complex .f64 (fl p) (fl q)) ∧ W.cell? ⟨w.heap.size, 5, none⟩ = some (.slice ao xs.length c) ∧ W.cell? ⟨w.heap.size, 6, none⟩ = some (.int .i64 pos)  := fun W h => ⟨(HE1.out.up h).cell 0, (HE1.out.up h).cell 1, (HE1.out.up h).cell 2, (HE1.out.up h).cell 3, (HE1.out.up h).cell 4, (HE1.out.up h).cell 5, (HE1.out.up h).cell 6⟩
    have hB1 := Below.refl W1.heap.size W1
    have hBD := (Below.refl W1.heap.size W1).drew
    have s1 := sB W1 hB1
    have sD := sB W1.drew hBD
    have HPX : Hid (pt (shL xs) 0 4 = P0 ∧ pt (shL xs) 1 5 = P1) := ⟨hP0, hP1⟩
    clear hP0 hP1 hp hn hsum
    go_wp2_with fail
    have n2 : (9223372036854775807 < (bs P0).size + 3) = False := eq_false (by omega)
    have n3 : (9223372036854775807 < (bs P0).size + 3 + (bs P1).size) = False := eq_false (by omega)
    go_region_held3 (fun W => W.cell? ⟨w.heap.size, 0, none⟩ = some (.int .i64 11) ∧ W.cell? ⟨w.heap.size, 1, none⟩ = some (.string (bs name)) ∧ W.cell? ⟨w.heap.size, 2, none⟩ = some (.string (bs tail)) ∧ W.cell? ⟨w.heap.size, 3, none⟩ = some (.int .i64 ty) ∧ W.cell? ⟨w.heap.size, 4, none⟩ = some (.complex .f64 (fl p) (fl q)) ∧ W.cell? ⟨w.heap.size, 5, none⟩ = some (.slice ao xs.length c) ∧ W.cell? ⟨w.heap.size, 6, none⟩ = some (.int .i64 pos) ) (first | (with_reducible exact s1) | (with_reducible exact sD) | (with_reducible assumption)) (first
      | (go_at_call 39; with_reducible refine Calls.mono (m0 _ (by assumption)) ?_; rintro r wz0 ⟨rfl, hbz⟩; have hBz0 := Below.thn (show Below W1.heap.size W1 _ by assumption) hbz; have sz0 := sB wz0 hBz0; clear hbz)
      | (go_at_call 39; with_reducible refine Calls.mono (m1 _ (by assumption)) ?_; rintro r wz1 ⟨rfl, hbz⟩; have hBz1 := Below.thn (show Below W1.heap.size W1 _ by assumption) hbz; have sz1 := sB wz1 hBz1; clear hbz)
      | fail)
    all_goals
      have HBL : Hid (Below w.heap.size w _) := Below.thn HB1.out hBz1
      clear s1 sD hBz1
      go_wp2_with fail
      go_ret
      refine ⟨?_, HBL.out⟩
      rw [shE_mk, show fm 11 name tail ty p q (shL xs) = pt (shL xs) 0 4 ++ [32, 47, 32] ++ pt (shL xs) 1 5 from (by simp [fm, loL, roL, signT, lvl])]
      have hx9 := HPX.out
      obtain ⟨e0, e1⟩ := hx9
      rw [e0, e1]
      simp only [← bs_app]
      rfl

set_option maxHeartbeats 4000000 in
theorem rx_if {w : World} {A : Nat → Prop} {name tail : List UInt8} {ty p q : Int} {xs : List Ex} {pos : Nat} {es : List Value} (hx : ExW w A (.mk 19 name tail ty p q xs pos) es) (hlen : (shE (.mk 19 name tail ty p q xs pos)).length ≤ 140737488355328) (hp : RpC (.mk 19 name tail ty p q xs pos) xs) (hn : xs.length = 3) : RxE (.mk 19 name tail ty p q xs pos) w es := by
  have hsum := hlen
  rw [shE_mk, show fm 19 name tail ty p q (shL xs) = [105, 102, 32] ++ pt (shL xs) 0 0 ++ [32, 116, 104, 101, 110, 32] ++ pt (shL xs) 1 0 ++ [32, 101, 108, 115, 101, 32] ++ pt (shL xs) 2 0 from rfl] at hsum
  generalize hP0 : pt (shL xs) 0 0 = P0 at hsum
  generalize hP1 : pt (shL xs) 1 0 = P1 at hsum
  generalize hP2 : pt (shL xs) 2 0 = P2 at hsum
  simp only [List.length_append, List.length_cons, List.length_nil] at hsum
  clear hlen
  unfold RxE
  have hxx := hx
  have HN : Hid (xs.length = 3) := hn
  have HSU : Hid (_ ≤ 140737488355328) := hsum
  clear hn hsum
  cases hx with
  | mk hl =>
    rename_i ao c
    have hb1 := below_alloc w (.cells #[.int .i64 19, .string (bs name), .string (bs tail), .int .i64 ty, .complex .f64 (fl p) (fl q), .slice ao xs.length c, .int .i64 pos] 53)
    have hE1 := Bk.new w 53 #[.int .i64 19, .string (bs name), .string (bs tail), .int .i64 ty, .complex .f64 (fl p) (fl q), .slice ao xs.length c, .int .i64 pos]
    generalize hW : w.alloc (.cells #[.int .i64 19, .string (bs name), .string (bs tail), .int .i64 ty, .complex .f64 (fl p) (fl q), .slice ao xs.length c, .int .i64 pos] 53) = W1 at *
    have HX1 : Hid (ExW W1 A (.mk 19 name tail ty p q xs pos) [.int .i64 19, .string (bs name), .string (bs tail), .int .i64 ty, .complex .f64 (fl p) (fl q), .slice ao xs.length c, .int .i64 pos]) := hxx.up hb1
    have HB1 : Hid (Below w.heap.size w W1) := hb1
    have HE1 : Hid (Bk W1 w.heap.size 53 [.int .i64 19, .string (bs name), .string (bs tail), .int .i64 ty, .complex .f64 (fl p) (fl q), .slice ao xs.length c, .int .i64 pos]) := hE1
    have hsg : Calls Tryz.prog 38 #[.int .i64 19] W1 fun e w' => e = .returned (.tuple #[.string ⟨#[]⟩, .int .i64 0, .int .i64 0]) ∧ w' = W1 := rsign_w (op := 19) (by unfold OpIn; omega) W1
    clear hl hb1 hE1 hxx
    go_enter Tryz.func23, Tryz.ntmps23
    go_upto_region 1 with fail
    first | rw [hW] | skip
    clear hW
    obtain ⟨c0, c1, c2, c3, c4, c5, c6⟩ := Bk.seven (show Bk W1 w.heap.size 53 [_, _, _, _, _, _, _] from HE1.out)
    go_wp2_with fail
    refine hsg.mono ?_
    rintro r wq ⟨rfl, hwq⟩
    rw [hwq]
    clear hwq hsg
    have hsum := HSU.out
    have hn := HN.out
    have z2 : 3 + (bs P0).size ≤ 9223372036854775807 := by simp only [bs_size]; omega
    have z3 : 3 + (bs P0).size + 6 ≤ 9223372036854775807 := by simp only [bs_size]; omega
    have z4 : 3 + (bs P0).size + 6 + (bs P1).size ≤ 9223372036854775807 := by simp only [bs_size]; omega
    have z5 : 3 + (bs P0).size + 6 + (bs P1).size + 6 ≤ 9223372036854775807 := by simp only [bs_size]; omega
    have z6 : 3 + (bs P0).size + 6 + (bs P1).size + 6 + (bs P2).size ≤ 9223372036854775807 := by simp only [bs_size]; omega
    have m0 : ∀ W, Below W1.heap.size W1 W → Calls Tryz.prog 39 #[.agg #[.int .i64 19, .string (bs name), .string (bs tail), .int .i64 ty, .complex .f64 (fl p) (fl q), .slice ao xs.length c, .int .i64 pos], .int .i64 0, .int .i64 0] W fun r w' => r = .returned (.string (bs P0)) ∧ Below W.heap.size W w' := fun W hW => by rw [← hP0]; exact hp W A _ (HX1.out.up hW) 0 0 (by omega)
    have m1 : ∀ W, Below W1.heap.size W1 W → Calls Tryz.prog 39 #[.agg #[.int .i64 19, .string (bs name), .string (bs tail), .int .i64 ty, .complex .f64 (fl p) (fl q), .slice ao xs.length c, .int .i64 pos], .int .i64 1, .int .i64 0] W fun r w' => r = .returned (.string (bs P1)) ∧ Below W.heap.size W w' := fun W hW => by rw [← hP1]; exact hp W A _ (HX1.out.up hW) 1 0 (by omega)
    have m2 : ∀ W, Below W1.heap.size W1 W → Calls Tryz.prog 39 #[.agg #[.int .i64 19, .string (bs name), .string (bs tail), .int .i64 ty, .complex .f64 (fl p) (fl q), .slice ao xs.length c, .int .i64 pos], .int .i64 2, .int .i64 0] W fun r w' => r = .returned (.string (bs P2)) ∧ Below W.heap.size W w' := fun W hW => by rw [← hP2]; exact hp W A _ (HX1.out.up hW) 2 0 (by omega)
    have sB : ∀ W, Below W1.heap.size W1 W → W.cell? ⟨w.heap.size, 0, none⟩ = some (.int .i64 19) ∧ W.cell? ⟨w.heap.size, 1, none⟩ = some (.string (bs name)) ∧ W.cell? ⟨w.heap.size, 2, none⟩ = some (.string (bs tail)) ∧ W.cell? ⟨w.heap.size, 3, none⟩ = some (.int .i64 ty) ∧ W.cell? ⟨w.heap.size, 4, none⟩ = some (.complex .f64 (fl p) (fl q)) ∧ W.cell? ⟨w.heap.size, 5, none⟩ = some (.slice ao xs.length c) ∧ W.cell? ⟨w.heap.size, 6, none⟩ = some (.int .i64 pos)  := fun W h => ⟨(HE1.out.up h).cell 0, (HE1.out.up h).cell 1, (HE1.out.up h).cell 2, (HE1.out.up h).cell 3, (HE1.out.up h).cell 4, (HE1.out.up h).cell 5, (HE1.out.up h).cell 6⟩
    have hB1 := Below.refl W1.heap.size W1
    have hBD := (Below.refl W1.heap.size W1).drew
    have s1 := sB W1 hB1
    have sD := sB W1.drew hBD
    have HPX : Hid (pt (shL xs) 0 0 = P0 ∧ pt (shL xs) 1 0 = P1 ∧ pt (shL xs) 2 0 = P2) := ⟨hP0, hP1, hP2⟩
    clear hP0 hP1 hP2 hp hn hsum
    go_wp2_with fail
    have n2 : (9223372036854775807 < 3 + (bs P0).size) = False := eq_false (by omega)
    have n3 : (9223372036854775807 < 3 + (bs P0).size + 6) = False := eq_false (by omega)
    have n4 : (9223372036854775807 < 3 + (bs P0).size + 6 + (bs P1).size) = False := eq_false (by omega)
    have n5 : (9223372036854775807 < 3 + (bs P0).size + 6 + (bs P1).size + 6) = False := eq_false (by omega)
    have n6 : (9223372036854775807 < 3 + (bs P0).size + 6 + (bs P1).size + 6 + (bs P2).size) = False := eq_false (by omega)
    go_region_held3 (fun W => W.cell? ⟨w.heap.size, 0, none⟩ = some (.int .i64 19) ∧ W.cell? ⟨w.heap.size, 1, none⟩ = some (.string (bs name)) ∧ W.cell? ⟨w.heap.size, 2, none⟩ = some (.string (bs tail)) ∧ W.cell? ⟨w.heap.size, 3, none⟩ = some (.int .i64 ty) ∧ W.cell? ⟨w.heap.size, 4, none⟩ = some (.complex .f64 (fl p) (fl q)) ∧ W.cell? ⟨w.heap.size, 5, none⟩ = some (.slice ao xs.length c) ∧ W.cell? ⟨w.heap.size, 6, none⟩ = some (.int .i64 pos) ) (first | (with_reducible exact s1) | (with_reducible exact sD) | (with_reducible assumption)) (first
      | (go_at_call 39; with_reducible refine Calls.mono (m0 _ (by assumption)) ?_; rintro r wz0 ⟨rfl, hbz⟩; have hBz0 := Below.thn (show Below W1.heap.size W1 _ by assumption) hbz; have sz0 := sB wz0 hBz0; clear hbz)
      | (go_at_call 39; with_reducible refine Calls.mono (m1 _ (by assumption)) ?_; rintro r wz1 ⟨rfl, hbz⟩; have hBz1 := Below.thn (show Below W1.heap.size W1 _ by assumption) hbz; have sz1 := sB wz1 hBz1; clear hbz)
      | (go_at_call 39; with_reducible refine Calls.mono (m2 _ (by assumption)) ?_; rintro r wz2 ⟨rfl, hbz⟩; have hBz2 := Below.thn (show Below W1.heap.size W1 _ by assumption) hbz; have sz2 := sB wz2 hBz2; clear hbz)
      | fail)
    all_goals
      have HBL : Hid (Below w.heap.size w _) := Below.thn HB1.out hBz2
      clear s1 sD hBz2
      go_wp2_with fail
      go_ret
      refine ⟨?_, HBL.out⟩
      rw [shE_mk, show fm 19 name tail ty p q (shL xs) = [105, 102, 32] ++ pt (shL xs) 0 0 ++ [32, 116, 104, 101, 110, 32] ++ pt (shL xs) 1 0 ++ [32, 101, 108, 115, 101, 32] ++ pt (shL xs) 2 0 from rfl]
      have hx9 := HPX.out
      obtain ⟨e0, e1, e2⟩ := hx9
      rw [e0, e1, e2]
      simp only [← bs_app]
      rfl

set_option maxHeartbeats 4000000 in
theorem rx_case {w : World} {A : Nat → Prop} {name tail : List UInt8} {ty p q : Int} {xs : List Ex} {pos : Nat} {es : List Value} (hx : ExW w A (.mk 20 name tail ty p q xs pos) es) (hlen : (shE (.mk 20 name tail ty p q xs pos)).length ≤ 140737488355328) (hp : RpC (.mk 20 name tail ty p q xs pos) xs) (hn : xs.length = 3) : RxE (.mk 20 name tail ty p q xs pos) w es := by
  have hsum := hlen
  rw [shE_mk, show fm 20 name tail ty p q (shL xs) = [99, 97, 115, 101, 32] ++ pt (shL xs) 0 0 ++ [32, 111, 102, 32, 110, 105, 108, 32, 45, 62, 32] ++ pt (shL xs) 1 0 ++ [32, 124, 32] ++ name ++ [58] ++ tail ++ [32, 45, 62, 32] ++ pt (shL xs) 2 0 from rfl] at hsum
  generalize hP0 : pt (shL xs) 0 0 = P0 at hsum
  generalize hP1 : pt (shL xs) 1 0 = P1 at hsum
  generalize hP2 : pt (shL xs) 2 0 = P2 at hsum
  simp only [List.length_append, List.length_cons, List.length_nil] at hsum
  clear hlen
  unfold RxE
  have hxx := hx
  have HN : Hid (xs.length = 3) := hn
  have HSU : Hid (_ ≤ 140737488355328) := hsum
  clear hn hsum
  cases hx with
  | mk hl =>
    rename_i ao c
    have hb1 := below_alloc w (.cells #[.int .i64 20, .string (bs name), .string (bs tail), .int .i64 ty, .complex .f64 (fl p) (fl q), .slice ao xs.length c, .int .i64 pos] 53)
    have hE1 := Bk.new w 53 #[.int .i64 20, .string (bs name), .string (bs tail), .int .i64 ty, .complex .f64 (fl p) (fl q), .slice ao xs.length c, .int .i64 pos]
    generalize hW : w.alloc (.cells #[.int .i64 20, .string (bs name), .string (bs tail), .int .i64 ty, .complex .f64 (fl p) (fl q), .slice ao xs.length c, .int .i64 pos] 53) = W1 at *
    have HX1 : Hid (ExW W1 A (.mk 20 name tail ty p q xs pos) [.int .i64 20, .string (bs name), .string (bs tail), .int .i64 ty, .complex .f64 (fl p) (fl q), .slice ao xs.length c, .int .i64 pos]) := hxx.up hb1
    have HB1 : Hid (Below w.heap.size w W1) := hb1
    have HE1 : Hid (Bk W1 w.heap.size 53 [.int .i64 20, .string (bs name), .string (bs tail), .int .i64 ty, .complex .f64 (fl p) (fl q), .slice ao xs.length c, .int .i64 pos]) := hE1
    have hsg : Calls Tryz.prog 38 #[.int .i64 20] W1 fun e w' => e = .returned (.tuple #[.string ⟨#[]⟩, .int .i64 0, .int .i64 0]) ∧ w' = W1 := rsign_w (op := 20) (by unfold OpIn; omega) W1
    clear hl hb1 hE1 hxx
    go_enter Tryz.func23, Tryz.ntmps23
    go_upto_region 1 with fail
    first | rw [hW] | skip
    clear hW
    obtain ⟨c0, c1, c2, c3, c4, c5, c6⟩ := Bk.seven (show Bk W1 w.heap.size 53 [_, _, _, _, _, _, _] from HE1.out)
    go_wp2_with fail
    refine hsg.mono ?_
    rintro r wq ⟨rfl, hwq⟩
    rw [hwq]
    clear hwq hsg
    have hsum := HSU.out
    have hn := HN.out
    have z2 : 5 + (bs P0).size ≤ 9223372036854775807 := by simp only [bs_size]; omega
    have z3 : 5 + (bs P0).size + 11 ≤ 9223372036854775807 := by simp only [bs_size]; omega
    have z4 : 5 + (bs P0).size + 11 + (bs P1).size ≤ 9223372036854775807 := by simp only [bs_size]; omega
    have z5 : 5 + (bs P0).size + 11 + (bs P1).size + 3 ≤ 9223372036854775807 := by simp only [bs_size]; omega
    have z6 : 5 + (bs P0).size + 11 + (bs P1).size + 3 + (bs name).size ≤ 9223372036854775807 := by simp only [bs_size]; omega
    have z7 : 5 + (bs P0).size + 11 + (bs P1).size + 3 + (bs name).size + 1 ≤ 9223372036854775807 := by simp only [bs_size]; omega
    have z8 : 5 + (bs P0).size + 11 + (bs P1).size + 3 + (bs name).size + 1 + (bs tail).size ≤ 9223372036854775807 := by simp only [bs_size]; omega
    have z9 : 5 + (bs P0).size + 11 + (bs P1).size + 3 + (bs name).size + 1 + (bs tail).size + 4 ≤ 9223372036854775807 := by simp only [bs_size]; omega
    have z10 : 5 + (bs P0).size + 11 + (bs P1).size + 3 + (bs name).size + 1 + (bs tail).size + 4 + (bs P2).size ≤ 9223372036854775807 := by simp only [bs_size]; omega
    have m0 : ∀ W, Below W1.heap.size W1 W → Calls Tryz.prog 39 #[.agg #[.int .i64 20, .string (bs name), .string (bs tail), .int .i64 ty, .complex .f64 (fl p) (fl q), .slice ao xs.length c, .int .i64 pos], .int .i64 0, .int .i64 0] W fun r w' => r = .returned (.string (bs P0)) ∧ Below W.heap.size W w' := fun W hW => by rw [← hP0]; exact hp W A _ (HX1.out.up hW) 0 0 (by omega)
    have m1 : ∀ W, Below W1.heap.size W1 W → Calls Tryz.prog 39 #[.agg #[.int .i64 20, .string (bs name), .string (bs tail), .int .i64 ty, .complex .f64 (fl p) (fl q), .slice ao xs.length c, .int .i64 pos], .int .i64 1, .int .i64 0] W fun r w' => r = .returned (.string (bs P1)) ∧ Below W.heap.size W w' := fun W hW => by rw [← hP1]; exact hp W A _ (HX1.out.up hW) 1 0 (by omega)
    have m2 : ∀ W, Below W1.heap.size W1 W → Calls Tryz.prog 39 #[.agg #[.int .i64 20, .string (bs name), .string (bs tail), .int .i64 ty, .complex .f64 (fl p) (fl q), .slice ao xs.length c, .int .i64 pos], .int .i64 2, .int .i64 0] W fun r w' => r = .returned (.string (bs P2)) ∧ Below W.heap.size W w' := fun W hW => by rw [← hP2]; exact hp W A _ (HX1.out.up hW) 2 0 (by omega)
    have sB : ∀ W, Below W1.heap.size W1 W → W.cell? ⟨w.heap.size, 0, none⟩ = some (.int .i64 20) ∧ W.cell? ⟨w.heap.size, 1, none⟩ = some (.string (bs name)) ∧ W.cell? ⟨w.heap.size, 2, none⟩ = some (.string (bs tail)) ∧ W.cell? ⟨w.heap.size, 3, none⟩ = some (.int .i64 ty) ∧ W.cell? ⟨w.heap.size, 4, none⟩ = some (.complex .f64 (fl p) (fl q)) ∧ W.cell? ⟨w.heap.size, 5, none⟩ = some (.slice ao xs.length c) ∧ W.cell? ⟨w.heap.size, 6, none⟩ = some (.int .i64 pos)  := fun W h => ⟨(HE1.out.up h).cell 0, (HE1.out.up h).cell 1, (HE1.out.up h).cell 2, (HE1.out.up h).cell 3, (HE1.out.up h).cell 4, (HE1.out.up h).cell 5, (HE1.out.up h).cell 6⟩
    have hB1 := Below.refl W1.heap.size W1
    have hBD := (Below.refl W1.heap.size W1).drew
    have s1 := sB W1 hB1
    have sD := sB W1.drew hBD
    have HPX : Hid (pt (shL xs) 0 0 = P0 ∧ pt (shL xs) 1 0 = P1 ∧ pt (shL xs) 2 0 = P2) := ⟨hP0, hP1, hP2⟩
    clear hP0 hP1 hP2 hp hn hsum
    go_wp2_with fail
    have n2 : (9223372036854775807 < 5 + (bs P0).size) = False := eq_false (by omega)
    have n3 : (9223372036854775807 < 5 + (bs P0).size + 11) = False := eq_false (by omega)
    have n4 : (9223372036854775807 < 5 + (bs P0).size + 11 + (bs P1).size) = False := eq_false (by omega)
    have n5 : (9223372036854775807 < 5 + (bs P0).size + 11 + (bs P1).size + 3) = False := eq_false (by omega)
    have n6 : (9223372036854775807 < 5 + (bs P0).size + 11 + (bs P1).size + 3 + (bs name).size) = False := eq_false (by omega)
    have n7 : (9223372036854775807 < 5 + (bs P0).size + 11 + (bs P1).size + 3 + (bs name).size + 1) = False := eq_false (by omega)
    have n8 : (9223372036854775807 < 5 + (bs P0).size + 11 + (bs P1).size + 3 + (bs name).size + 1 + (bs tail).size) = False := eq_false (by omega)
    have n9 : (9223372036854775807 < 5 + (bs P0).size + 11 + (bs P1).size + 3 + (bs name).size + 1 + (bs tail).size + 4) = False := eq_false (by omega)
    have n10 : (9223372036854775807 < 5 + (bs P0).size + 11 + (bs P1).size + 3 + (bs name).size + 1 + (bs tail).size + 4 + (bs P2).size) = False := eq_false (by omega)
    go_region_held3 (fun W => W.cell? ⟨w.heap.size, 0, none⟩ = some (.int .i64 20) ∧ W.cell? ⟨w.heap.size, 1, none⟩ = some (.string (bs name)) ∧ W.cell? ⟨w.heap.size, 2, none⟩ = some (.string (bs tail)) ∧ W.cell? ⟨w.heap.size, 3, none⟩ = some (.int .i64 ty) ∧ W.cell? ⟨w.heap.size, 4, none⟩ = some (.complex .f64 (fl p) (fl q)) ∧ W.cell? ⟨w.heap.size, 5, none⟩ = some (.slice ao xs.length c) ∧ W.cell? ⟨w.heap.size, 6, none⟩ = some (.int .i64 pos) ) (first | (with_reducible exact s1) | (with_reducible exact sD) | (with_reducible assumption)) (first
      | (go_at_call 39; with_reducible refine Calls.mono (m0 _ (by assumption)) ?_; rintro r wz0 ⟨rfl, hbz⟩; have hBz0 := Below.thn (show Below W1.heap.size W1 _ by assumption) hbz; have sz0 := sB wz0 hBz0; clear hbz)
      | (go_at_call 39; with_reducible refine Calls.mono (m1 _ (by assumption)) ?_; rintro r wz1 ⟨rfl, hbz⟩; have hBz1 := Below.thn (show Below W1.heap.size W1 _ by assumption) hbz; have sz1 := sB wz1 hBz1; clear hbz)
      | (go_at_call 39; with_reducible refine Calls.mono (m2 _ (by assumption)) ?_; rintro r wz2 ⟨rfl, hbz⟩; have hBz2 := Below.thn (show Below W1.heap.size W1 _ by assumption) hbz; have sz2 := sB wz2 hBz2; clear hbz)
      | fail)
    all_goals
      have HBL : Hid (Below w.heap.size w _) := Below.thn HB1.out hBz2
      clear s1 sD hBz2
      go_wp2_with fail
      go_ret
      refine ⟨?_, HBL.out⟩
      rw [shE_mk, show fm 20 name tail ty p q (shL xs) = [99, 97, 115, 101, 32] ++ pt (shL xs) 0 0 ++ [32, 111, 102, 32, 110, 105, 108, 32, 45, 62, 32] ++ pt (shL xs) 1 0 ++ [32, 124, 32] ++ name ++ [58] ++ tail ++ [32, 45, 62, 32] ++ pt (shL xs) 2 0 from rfl]
      have hx9 := HPX.out
      obtain ⟨e0, e1, e2⟩ := hx9
      rw [e0, e1, e2]
      simp only [← bs_app]
      rfl

set_option maxHeartbeats 4000000 in
theorem rx_let21 {w : World} {A : Nat → Prop} {name tail : List UInt8} {ty p q : Int} {xs : List Ex} {pos : Nat} {es : List Value} (hx : ExW w A (.mk 21 name tail ty p q xs pos) es) (ht : ty = 1 ∨ ty = 2 ∨ ty = 3) (hlen : (shE (.mk 21 name tail ty p q xs pos)).length ≤ 140737488355328) (hp : RpC (.mk 21 name tail ty p q xs pos) xs) (hn : xs.length = 2) : RxE (.mk 21 name tail ty p q xs pos) w es := by
  have hsum := hlen
  rw [shE_mk, show fm 21 name tail ty p q (shL xs) = [108, 101, 116, 32] ++ name ++ [32] ++ letT ty ++ [32, 61, 32] ++ pt (shL xs) 0 0 ++ [32, 105, 110, 32] ++ pt (shL xs) 1 0 from (by simp [fm, wordT])] at hsum
  generalize hP0 : pt (shL xs) 0 0 = P0 at hsum
  generalize hP1 : pt (shL xs) 1 0 = P1 at hsum
  simp only [List.length_append, List.length_cons, List.length_nil] at hsum
  clear hlen
  unfold RxE
  have hxx := hx
  have HN : Hid (xs.length = 2) := hn
  have HSU : Hid (_ ≤ 140737488355328) := hsum
  clear hn hsum
  cases hx with
  | mk hl =>
    rename_i ao c
    have hb1 := below_alloc w (.cells #[.int .i64 21, .string (bs name), .string (bs tail), .int .i64 ty, .complex .f64 (fl p) (fl q), .slice ao xs.length c, .int .i64 pos] 53)
    have hE1 := Bk.new w 53 #[.int .i64 21, .string (bs name), .string (bs tail), .int .i64 ty, .complex .f64 (fl p) (fl q), .slice ao xs.length c, .int .i64 pos]
    generalize hW : w.alloc (.cells #[.int .i64 21, .string (bs name), .string (bs tail), .int .i64 ty, .complex .f64 (fl p) (fl q), .slice ao xs.length c, .int .i64 pos] 53) = W1 at *
    have HX1 : Hid (ExW W1 A (.mk 21 name tail ty p q xs pos) [.int .i64 21, .string (bs name), .string (bs tail), .int .i64 ty, .complex .f64 (fl p) (fl q), .slice ao xs.length c, .int .i64 pos]) := hxx.up hb1
    have HB1 : Hid (Below w.heap.size w W1) := hb1
    have HE1 : Hid (Bk W1 w.heap.size 53 [.int .i64 21, .string (bs name), .string (bs tail), .int .i64 ty, .complex .f64 (fl p) (fl q), .slice ao xs.length c, .int .i64 pos]) := hE1
    have hsg : Calls Tryz.prog 38 #[.int .i64 21] W1 fun e w' => e = .returned (.tuple #[.string ⟨#[]⟩, .int .i64 0, .int .i64 0]) ∧ w' = W1 := rsign_w (op := 21) (by unfold OpIn; omega) W1
    clear hl hb1 hE1 hxx
    go_enter Tryz.func23, Tryz.ntmps23
    go_upto_region 1 with fail
    first | rw [hW] | skip
    clear hW
    obtain ⟨c0, c1, c2, c3, c4, c5, c6⟩ := Bk.seven (show Bk W1 w.heap.size 53 [_, _, _, _, _, _, _] from HE1.out)
    go_wp2_with fail
    refine hsg.mono ?_
    rintro r wq ⟨rfl, hwq⟩
    rw [hwq]
    clear hwq hsg
    have hsum := HSU.out
    have hn := HN.out
    have z2 : 4 + (bs name).size ≤ 9223372036854775807 := by simp only [bs_size]; omega
    have z3 : 4 + (bs name).size + 1 ≤ 9223372036854775807 := by simp only [bs_size]; omega
    have z4 : 4 + (bs name).size + 1 + (bs (letT ty)).size ≤ 9223372036854775807 := by simp only [bs_size]; omega
    have z5 : 4 + (bs name).size + 1 + (bs (letT ty)).size + 3 ≤ 9223372036854775807 := by simp only [bs_size]; omega
    have z6 : 4 + (bs name).size + 1 + (bs (letT ty)).size + 3 + (bs P0).size ≤ 9223372036854775807 := by simp only [bs_size]; omega
    have z7 : 4 + (bs name).size + 1 + (bs (letT ty)).size + 3 + (bs P0).size + 4 ≤ 9223372036854775807 := by simp only [bs_size]; omega
    have z8 : 4 + (bs name).size + 1 + (bs (letT ty)).size + 3 + (bs P0).size + 4 + (bs P1).size ≤ 9223372036854775807 := by simp only [bs_size]; omega
    have m0 : ∀ W, Below W1.heap.size W1 W → Calls Tryz.prog 39 #[.agg #[.int .i64 21, .string (bs name), .string (bs tail), .int .i64 ty, .complex .f64 (fl p) (fl q), .slice ao xs.length c, .int .i64 pos], .int .i64 0, .int .i64 0] W fun r w' => r = .returned (.string (bs P0)) ∧ Below W.heap.size W w' := fun W hW => by rw [← hP0]; exact hp W A _ (HX1.out.up hW) 0 0 (by omega)
    have m1 : ∀ W, Below W1.heap.size W1 W → Calls Tryz.prog 39 #[.agg #[.int .i64 21, .string (bs name), .string (bs tail), .int .i64 ty, .complex .f64 (fl p) (fl q), .slice ao xs.length c, .int .i64 pos], .int .i64 1, .int .i64 0] W fun r w' => r = .returned (.string (bs P1)) ∧ Below W.heap.size W w' := fun W hW => by rw [← hP1]; exact hp W A _ (HX1.out.up hW) 1 0 (by omega)
    have sB : ∀ W, Below W1.heap.size W1 W → W.cell? ⟨w.heap.size, 0, none⟩ = some (.int .i64 21) ∧ W.cell? ⟨w.heap.size, 1, none⟩ = some (.string (bs name)) ∧ W.cell? ⟨w.heap.size, 2, none⟩ = some (.string (bs tail)) ∧ W.cell? ⟨w.heap.size, 3, none⟩ = some (.int .i64 ty) ∧ W.cell? ⟨w.heap.size, 4, none⟩ = some (.complex .f64 (fl p) (fl q)) ∧ W.cell? ⟨w.heap.size, 5, none⟩ = some (.slice ao xs.length c) ∧ W.cell? ⟨w.heap.size, 6, none⟩ = some (.int .i64 pos)  := fun W h => ⟨(HE1.out.up h).cell 0, (HE1.out.up h).cell 1, (HE1.out.up h).cell 2, (HE1.out.up h).cell 3, (HE1.out.up h).cell 4, (HE1.out.up h).cell 5, (HE1.out.up h).cell 6⟩
    have hB1 := Below.refl W1.heap.size W1
    have hBD := (Below.refl W1.heap.size W1).drew
    have s1 := sB W1 hB1
    have sD := sB W1.drew hBD
    have ml := fun W => rletter_w ht W
    clear ht
    have HPX : Hid (pt (shL xs) 0 0 = P0 ∧ pt (shL xs) 1 0 = P1) := ⟨hP0, hP1⟩
    clear hP0 hP1 hp hn hsum
    go_wp2_with fail
    have n2 : (9223372036854775807 < 4 + (bs name).size) = False := eq_false (by omega)
    have n3 : (9223372036854775807 < 4 + (bs name).size + 1) = False := eq_false (by omega)
    have n4 : (9223372036854775807 < 4 + (bs name).size + 1 + (bs (letT ty)).size) = False := eq_false (by omega)
    have n5 : (9223372036854775807 < 4 + (bs name).size + 1 + (bs (letT ty)).size + 3) = False := eq_false (by omega)
    have n6 : (9223372036854775807 < 4 + (bs name).size + 1 + (bs (letT ty)).size + 3 + (bs P0).size) = False := eq_false (by omega)
    have n7 : (9223372036854775807 < 4 + (bs name).size + 1 + (bs (letT ty)).size + 3 + (bs P0).size + 4) = False := eq_false (by omega)
    have n8 : (9223372036854775807 < 4 + (bs name).size + 1 + (bs (letT ty)).size + 3 + (bs P0).size + 4 + (bs P1).size) = False := eq_false (by omega)
    go_region_held3 (fun W => W.cell? ⟨w.heap.size, 0, none⟩ = some (.int .i64 21) ∧ W.cell? ⟨w.heap.size, 1, none⟩ = some (.string (bs name)) ∧ W.cell? ⟨w.heap.size, 2, none⟩ = some (.string (bs tail)) ∧ W.cell? ⟨w.heap.size, 3, none⟩ = some (.int .i64 ty) ∧ W.cell? ⟨w.heap.size, 4, none⟩ = some (.complex .f64 (fl p) (fl q)) ∧ W.cell? ⟨w.heap.size, 5, none⟩ = some (.slice ao xs.length c) ∧ W.cell? ⟨w.heap.size, 6, none⟩ = some (.int .i64 pos) ) (first | (with_reducible exact s1) | (with_reducible exact sD) | (with_reducible assumption)) (first
      | (go_at_call 39; with_reducible refine Calls.mono (m0 _ (by assumption)) ?_; rintro r wz0 ⟨rfl, hbz⟩; have hBz0 := Below.thn (show Below W1.heap.size W1 _ by assumption) hbz; have sz0 := sB wz0 hBz0; clear hbz)
      | (go_at_call 39; with_reducible refine Calls.mono (m1 _ (by assumption)) ?_; rintro r wz1 ⟨rfl, hbz⟩; have hBz1 := Below.thn (show Below W1.heap.size W1 _ by assumption) hbz; have sz1 := sB wz1 hBz1; clear hbz)
      | (go_at_call 42; with_reducible refine Calls.mono (ml _) ?_; rintro r wq ⟨rfl, hwq⟩; rw [hwq]; clear hwq)
      | fail)
    all_goals
      have HBL : Hid (Below w.heap.size w _) := Below.thn HB1.out hBz1
      clear s1 sD hBz1
      go_wp2_with fail
      go_ret
      refine ⟨?_, HBL.out⟩
      rw [shE_mk, show fm 21 name tail ty p q (shL xs) = [108, 101, 116, 32] ++ name ++ [32] ++ letT ty ++ [32, 61, 32] ++ pt (shL xs) 0 0 ++ [32, 105, 110, 32] ++ pt (shL xs) 1 0 from (by simp [fm, wordT])]
      have hx9 := HPX.out
      obtain ⟨e0, e1⟩ := hx9
      rw [e0, e1]
      simp only [← bs_app]
      rfl

set_option maxHeartbeats 4000000 in
theorem rx_let22 {w : World} {A : Nat → Prop} {name tail : List UInt8} {ty p q : Int} {xs : List Ex} {pos : Nat} {es : List Value} (hx : ExW w A (.mk 22 name tail ty p q xs pos) es) (ht : ty = 1 ∨ ty = 2 ∨ ty = 3) (hlen : (shE (.mk 22 name tail ty p q xs pos)).length ≤ 140737488355328) (hp : RpC (.mk 22 name tail ty p q xs pos) xs) (hn : xs.length = 2) : RxE (.mk 22 name tail ty p q xs pos) w es := by
  have hsum := hlen
  rw [shE_mk, show fm 22 name tail ty p q (shL xs) = [115, 116, 114, 105, 99, 116, 32] ++ name ++ [32] ++ letT ty ++ [32, 61, 32] ++ pt (shL xs) 0 0 ++ [32, 105, 110, 32] ++ pt (shL xs) 1 0 from (by simp [fm, wordT])] at hsum
  generalize hP0 : pt (shL xs) 0 0 = P0 at hsum
  generalize hP1 : pt (shL xs) 1 0 = P1 at hsum
  simp only [List.length_append, List.length_cons, List.length_nil] at hsum
  clear hlen
  unfold RxE
  have hxx := hx
  have HN : Hid (xs.length = 2) := hn
  have HSU : Hid (_ ≤ 140737488355328) := hsum
  clear hn hsum
  cases hx with
  | mk hl =>
    rename_i ao c
    have hb1 := below_alloc w (.cells #[.int .i64 22, .string (bs name), .string (bs tail), .int .i64 ty, .complex .f64 (fl p) (fl q), .slice ao xs.length c, .int .i64 pos] 53)
    have hE1 := Bk.new w 53 #[.int .i64 22, .string (bs name), .string (bs tail), .int .i64 ty, .complex .f64 (fl p) (fl q), .slice ao xs.length c, .int .i64 pos]
    generalize hW : w.alloc (.cells #[.int .i64 22, .string (bs name), .string (bs tail), .int .i64 ty, .complex .f64 (fl p) (fl q), .slice ao xs.length c, .int .i64 pos] 53) = W1 at *
    have HX1 : Hid (ExW W1 A (.mk 22 name tail ty p q xs pos) [.int .i64 22, .string (bs name), .string (bs tail), .int .i64 ty, .complex .f64 (fl p) (fl q), .slice ao xs.length c, .int .i64 pos]) := hxx.up hb1
    have HB1 : Hid (Below w.heap.size w W1) := hb1
    have HE1 : Hid (Bk W1 w.heap.size 53 [.int .i64 22, .string (bs name), .string (bs tail), .int .i64 ty, .complex .f64 (fl p) (fl q), .slice ao xs.length c, .int .i64 pos]) := hE1
    have hsg : Calls Tryz.prog 38 #[.int .i64 22] W1 fun e w' => e = .returned (.tuple #[.string ⟨#[]⟩, .int .i64 0, .int .i64 0]) ∧ w' = W1 := rsign_w (op := 22) (by unfold OpIn; omega) W1
    clear hl hb1 hE1 hxx
    go_enter Tryz.func23, Tryz.ntmps23
    go_upto_region 1 with fail
    first | rw [hW] | skip
    clear hW
    obtain ⟨c0, c1, c2, c3, c4, c5, c6⟩ := Bk.seven (show Bk W1 w.heap.size 53 [_, _, _, _, _, _, _] from HE1.out)
    go_wp2_with fail
    refine hsg.mono ?_
    rintro r wq ⟨rfl, hwq⟩
    rw [hwq]
    clear hwq hsg
    have hsum := HSU.out
    have hn := HN.out
    have z2 : 7 + (bs name).size ≤ 9223372036854775807 := by simp only [bs_size]; omega
    have z3 : 7 + (bs name).size + 1 ≤ 9223372036854775807 := by simp only [bs_size]; omega
    have z4 : 7 + (bs name).size + 1 + (bs (letT ty)).size ≤ 9223372036854775807 := by simp only [bs_size]; omega
    have z5 : 7 + (bs name).size + 1 + (bs (letT ty)).size + 3 ≤ 9223372036854775807 := by simp only [bs_size]; omega
    have z6 : 7 + (bs name).size + 1 + (bs (letT ty)).size + 3 + (bs P0).size ≤ 9223372036854775807 := by simp only [bs_size]; omega
    have z7 : 7 + (bs name).size + 1 + (bs (letT ty)).size + 3 + (bs P0).size + 4 ≤ 9223372036854775807 := by simp only [bs_size]; omega
    have z8 : 7 + (bs name).size + 1 + (bs (letT ty)).size + 3 + (bs P0).size + 4 + (bs P1).size ≤ 9223372036854775807 := by simp only [bs_size]; omega
    have m0 : ∀ W, Below W1.heap.size W1 W → Calls Tryz.prog 39 #[.agg #[.int .i64 22, .string (bs name), .string (bs tail), .int .i64 ty, .complex .f64 (fl p) (fl q), .slice ao xs.length c, .int .i64 pos], .int .i64 0, .int .i64 0] W fun r w' => r = .returned (.string (bs P0)) ∧ Below W.heap.size W w' := fun W hW => by rw [← hP0]; exact hp W A _ (HX1.out.up hW) 0 0 (by omega)
    have m1 : ∀ W, Below W1.heap.size W1 W → Calls Tryz.prog 39 #[.agg #[.int .i64 22, .string (bs name), .string (bs tail), .int .i64 ty, .complex .f64 (fl p) (fl q), .slice ao xs.length c, .int .i64 pos], .int .i64 1, .int .i64 0] W fun r w' => r = .returned (.string (bs P1)) ∧ Below W.heap.size W w' := fun W hW => by rw [← hP1]; exact hp W A _ (HX1.out.up hW) 1 0 (by omega)
    have sB : ∀ W, Below W1.heap.size W1 W → W.cell? ⟨w.heap.size, 0, none⟩ = some (.int .i64 22) ∧ W.cell? ⟨w.heap.size, 1, none⟩ = some (.string (bs name)) ∧ W.cell? ⟨w.heap.size, 2, none⟩ = some (.string (bs tail)) ∧ W.cell? ⟨w.heap.size, 3, none⟩ = some (.int .i64 ty) ∧ W.cell? ⟨w.heap.size, 4, none⟩ = some (.complex .f64 (fl p) (fl q)) ∧ W.cell? ⟨w.heap.size, 5, none⟩ = some (.slice ao xs.length c) ∧ W.cell? ⟨w.heap.size, 6, none⟩ = some (.int .i64 pos)  := fun W h => ⟨(HE1.out.up h).cell 0, (HE1.out.up h).cell 1, (HE1.out.up h).cell 2, (HE1.out.up h).cell 3, (HE1.out.up h).cell 4, (HE1.out.up h).cell 5, (HE1.out.up h).cell 6⟩
    have hB1 := Below.refl W1.heap.size W1
    have hBD := (Below.refl W1.heap.size W1).drew
    have s1 := sB W1 hB1
    have sD := sB W1.drew hBD
    have ml := fun W => rletter_w ht W
    clear ht
    have HPX : Hid (pt (shL xs) 0 0 = P0 ∧ pt (shL xs) 1 0 = P1) := ⟨hP0, hP1⟩
    clear hP0 hP1 hp hn hsum
    go_wp2_with fail
    have n2 : (9223372036854775807 < 7 + (bs name).size) = False := eq_false (by omega)
    have n3 : (9223372036854775807 < 7 + (bs name).size + 1) = False := eq_false (by omega)
    have n4 : (9223372036854775807 < 7 + (bs name).size + 1 + (bs (letT ty)).size) = False := eq_false (by omega)
    have n5 : (9223372036854775807 < 7 + (bs name).size + 1 + (bs (letT ty)).size + 3) = False := eq_false (by omega)
    have n6 : (9223372036854775807 < 7 + (bs name).size + 1 + (bs (letT ty)).size + 3 + (bs P0).size) = False := eq_false (by omega)
    have n7 : (9223372036854775807 < 7 + (bs name).size + 1 + (bs (letT ty)).size + 3 + (bs P0).size + 4) = False := eq_false (by omega)
    have n8 : (9223372036854775807 < 7 + (bs name).size + 1 + (bs (letT ty)).size + 3 + (bs P0).size + 4 + (bs P1).size) = False := eq_false (by omega)
    go_region_held3 (fun W => W.cell? ⟨w.heap.size, 0, none⟩ = some (.int .i64 22) ∧ W.cell? ⟨w.heap.size, 1, none⟩ = some (.string (bs name)) ∧ W.cell? ⟨w.heap.size, 2, none⟩ = some (.string (bs tail)) ∧ W.cell? ⟨w.heap.size, 3, none⟩ = some (.int .i64 ty) ∧ W.cell? ⟨w.heap.size, 4, none⟩ = some (.complex .f64 (fl p) (fl q)) ∧ W.cell? ⟨w.heap.size, 5, none⟩ = some (.slice ao xs.length c) ∧ W.cell? ⟨w.heap.size, 6, none⟩ = some (.int .i64 pos) ) (first | (with_reducible exact s1) | (with_reducible exact sD) | (with_reducible assumption)) (first
      | (go_at_call 39; with_reducible refine Calls.mono (m0 _ (by assumption)) ?_; rintro r wz0 ⟨rfl, hbz⟩; have hBz0 := Below.thn (show Below W1.heap.size W1 _ by assumption) hbz; have sz0 := sB wz0 hBz0; clear hbz)
      | (go_at_call 39; with_reducible refine Calls.mono (m1 _ (by assumption)) ?_; rintro r wz1 ⟨rfl, hbz⟩; have hBz1 := Below.thn (show Below W1.heap.size W1 _ by assumption) hbz; have sz1 := sB wz1 hBz1; clear hbz)
      | (go_at_call 42; with_reducible refine Calls.mono (ml _) ?_; rintro r wq ⟨rfl, hwq⟩; rw [hwq]; clear hwq)
      | fail)
    all_goals
      have HBL : Hid (Below w.heap.size w _) := Below.thn HB1.out hBz1
      clear s1 sD hBz1
      go_wp2_with fail
      go_ret
      refine ⟨?_, HBL.out⟩
      rw [shE_mk, show fm 22 name tail ty p q (shL xs) = [115, 116, 114, 105, 99, 116, 32] ++ name ++ [32] ++ letT ty ++ [32, 61, 32] ++ pt (shL xs) 0 0 ++ [32, 105, 110, 32] ++ pt (shL xs) 1 0 from (by simp [fm, wordT])]
      have hx9 := HPX.out
      obtain ⟨e0, e1⟩ := hx9
      rw [e0, e1]
      simp only [← bs_app]
      rfl

set_option maxHeartbeats 4000000 in
theorem rx_call {w : World} {A : Nat → Prop} {name tail : List UInt8} {ty p q : Int} {xs : List Ex} {pos : Nat} {es : List Value} (hx : ExW w A (.mk 7 name tail ty p q xs pos) es) (hm : ∀ (w : World) (A : Nat → Prop) (es : List Value), ExW w A (.mk 7 name tail ty p q xs pos) es → Calls Tryz.prog 43 #[.agg es.toArray] w fun r w' => r = .returned (.string (bs (40 :: (cmK xs xs.length ++ [41])))) ∧ Below w.heap.size w w') (hlen : (shE (.mk 7 name tail ty p q xs pos)).length ≤ 140737488355328) : RxE (.mk 7 name tail ty p q xs pos) w es := by
  have hsum := hlen
  rw [shE_mk, show fm 7 name tail ty p q (shL xs) = name ++ (40 :: (cm ((shL xs).map (·.2)) ++ [41])) from (by simp [fm]), ← cmK_all] at hsum
  simp only [List.length_append, List.length_cons, List.length_nil] at hsum
  clear hlen
  unfold RxE
  have hxx := hx
  have HSU : Hid (_ ≤ 140737488355328) := hsum
  clear hsum
  cases hx with
  | mk hl =>
    rename_i ao c
    have hb1 := below_alloc w (.cells #[.int .i64 7, .string (bs name), .string (bs tail), .int .i64 ty, .complex .f64 (fl p) (fl q), .slice ao xs.length c, .int .i64 pos] 53)
    have hE1 := Bk.new w 53 #[.int .i64 7, .string (bs name), .string (bs tail), .int .i64 ty, .complex .f64 (fl p) (fl q), .slice ao xs.length c, .int .i64 pos]
    generalize hW : w.alloc (.cells #[.int .i64 7, .string (bs name), .string (bs tail), .int .i64 ty, .complex .f64 (fl p) (fl q), .slice ao xs.length c, .int .i64 pos] 53) = W1 at *
    have HX1 : Hid (ExW W1 A (.mk 7 name tail ty p q xs pos) [.int .i64 7, .string (bs name), .string (bs tail), .int .i64 ty, .complex .f64 (fl p) (fl q), .slice ao xs.length c, .int .i64 pos]) := hxx.up hb1
    have HB1 : Hid (Below w.heap.size w W1) := hb1
    have HE1 : Hid (Bk W1 w.heap.size 53 [.int .i64 7, .string (bs name), .string (bs tail), .int .i64 ty, .complex .f64 (fl p) (fl q), .slice ao xs.length c, .int .i64 pos]) := hE1
    have hsg : Calls Tryz.prog 38 #[.int .i64 7] W1 fun e w' => e = .returned (.tuple #[.string ⟨#[]⟩, .int .i64 0, .int .i64 0]) ∧ w' = W1 := rsign_w (op := 7) (by unfold OpIn; omega) W1
    clear hl hb1 hE1 hxx
    go_enter Tryz.func23, Tryz.ntmps23
    go_upto_region 1 with fail
    first | rw [hW] | skip
    clear hW
    obtain ⟨c0, c1, c2, c3, c4, c5, c6⟩ := Bk.seven (show Bk W1 w.heap.size 53 [_, _, _, _, _, _, _] from HE1.out)
    go_wp2_with fail
    refine hsg.mono ?_
    rintro r wq ⟨rfl, hwq⟩
    rw [hwq]
    clear hwq hsg
    have hsum := HSU.out
    generalize hQ : (40 :: (cmK xs xs.length ++ [41])) = Q at hm
    have hql : Q.length = (cmK xs xs.length).length + 2 := by rw [← hQ, List.length_cons, List.length_append]; rfl
    have z2 : (bs name).size + (bs Q).size ≤ 9223372036854775807 := by simp only [bs_size]; omega
    have m9 : ∀ W, Below W1.heap.size W1 W → Calls Tryz.prog 43 #[.agg #[.int .i64 7, .string (bs name), .string (bs tail), .int .i64 ty, .complex .f64 (fl p) (fl q), .slice ao xs.length c, .int .i64 pos]] W fun r w' => r = .returned (.string (bs Q)) ∧ Below W.heap.size W w' := fun W hW => hm W A _ (HX1.out.up hW)
    have sB : ∀ W, Below W1.heap.size W1 W → W.cell? ⟨w.heap.size, 0, none⟩ = some (.int .i64 7) ∧ W.cell? ⟨w.heap.size, 1, none⟩ = some (.string (bs name)) ∧ W.cell? ⟨w.heap.size, 2, none⟩ = some (.string (bs tail)) ∧ W.cell? ⟨w.heap.size, 3, none⟩ = some (.int .i64 ty) ∧ W.cell? ⟨w.heap.size, 4, none⟩ = some (.complex .f64 (fl p) (fl q)) ∧ W.cell? ⟨w.heap.size, 5, none⟩ = some (.slice ao xs.length c) ∧ W.cell? ⟨w.heap.size, 6, none⟩ = some (.int .i64 pos)  := fun W h => ⟨(HE1.out.up h).cell 0, (HE1.out.up h).cell 1, (HE1.out.up h).cell 2, (HE1.out.up h).cell 3, (HE1.out.up h).cell 4, (HE1.out.up h).cell 5, (HE1.out.up h).cell 6⟩
    have hB1 := Below.refl W1.heap.size W1
    have hBD := (Below.refl W1.heap.size W1).drew
    have s1 := sB W1 hB1
    have sD := sB W1.drew hBD
    have HQ : Hid ((40 :: (cmK xs xs.length ++ [41])) = Q) := hQ
    clear hm hQ hsum hql
    go_wp2_with fail
    have n2 : (9223372036854775807 < (bs name).size + (bs Q).size) = False := eq_false (by omega)
    go_region_held3 (fun W => W.cell? ⟨w.heap.size, 0, none⟩ = some (.int .i64 7) ∧ W.cell? ⟨w.heap.size, 1, none⟩ = some (.string (bs name)) ∧ W.cell? ⟨w.heap.size, 2, none⟩ = some (.string (bs tail)) ∧ W.cell? ⟨w.heap.size, 3, none⟩ = some (.int .i64 ty) ∧ W.cell? ⟨w.heap.size, 4, none⟩ = some (.complex .f64 (fl p) (fl q)) ∧ W.cell? ⟨w.heap.size, 5, none⟩ = some (.slice ao xs.length c) ∧ W.cell? ⟨w.heap.size, 6, none⟩ = some (.int .i64 pos) ) (first | (with_reducible exact s1) | (with_reducible exact sD) | (with_reducible assumption)) (first
      | (go_at_call 43; with_reducible refine Calls.mono (m9 _ (by assumption)) ?_; rintro r wz ⟨rfl, hbz⟩; have hBz := Below.thn (show Below W1.heap.size W1 _ by assumption) hbz; have sz := sB wz hBz; clear hbz)
      | fail)
    all_goals
      have HBL : Hid (Below w.heap.size w _) := Below.thn HB1.out hBz
      clear s1 sD hBz
      go_wp2_with fail
      go_ret
      refine ⟨?_, HBL.out⟩
      rw [shE_mk, show fm 7 name tail ty p q (shL xs) = name ++ (40 :: (cm ((shL xs).map (·.2)) ++ [41])) from (by simp [fm]), ← cmK_all, HQ.out, ← bs_app]
      rfl
end Go.Proofs.YtflennpocpbbpaaGreatDoor
/-
  The document's printer of an expression, walked whole.
-/
namespace Go.Proofs.YtflennpocpbbpaaGreatDoor
open Go.RowKit
set_option maxRecDepth 100000

abbrev LnN (x : List UInt8) : Prop := x.length ≤ 32768
abbrev LnU (p q : Int) : Prop := (txt p q).length ≤ 32768
theorem lenB {e : Ex} (h : wfE LnN LnU e) (hs : szE e ≤ 32769) : (shE e).length ≤ 140737488355328 := by
  have a := len_E (K := 32768) _ e (Nat.le_refl _) h
  omega
theorem op_in {Nm : List UInt8 → Prop} {Nu : Int → Int → Prop} {e : Ex} (h : wfE Nm Nu e) : OpIn e.op := by
  obtain ⟨op, x, y, ty, p, q, xs, i⟩ := e
  rw [wfE_mk] at h
  exact wf_op h.1
theorem cmK_one (a : Ex) : cmK [a] 1 = pt (shL [a]) 0 0 := by
  rw [pt_at 0 (by simp), brq_zero]
  simp [cmK, cm]

theorem rexpr_w : ∀ (n : Nat) (e : Ex), szE e ≤ n → n ≤ 32769 → wfE IsNm (IsNu rdN) e → wfE LnN LnU e → RxC e := by
  intro n
  induction n with
  | zero => intro e h; have := szE_pos e; omega
  | succ n ih =>
    intro e hs hn hw hv w A es hx
    have hln := lenB hv (by omega)
    obtain ⟨op, x, y, ty, p, q, xs, i⟩ := e
    rw [wfE_mk] at hw hv
    rw [szE_mk] at hs
    obtain ⟨hw, hl⟩ := hw
    obtain ⟨-, hk⟩ := hv
    have hlx := length_szL xs
    have hxc : ∀ k, k < xs.length → RxC (xs.getD k ed) := fun k h => ih _ (by have := szE_at xs k h; omega) (by omega) (wfL_at xs hl k h) (wfL_at xs hk k h)
    have hpa : RpC (.mk op x y ty p q xs i) xs := rpart_w (fun k h => lenB (wfL_at xs hk k h) (by have := szE_at xs k h; omega)) (fun k h => op_in (wfL_at xs hl k h)) hxc
    show RxE (.mk op x y ty p q xs i) w es
    generalize hle : xs.length = len at hw
    cases hw with
    | num h => exact rx_num hx (rd_small _ _ h).1 (rd_small _ _ h).2
    | word h =>
      rcases h with rfl | rfl | rfl
      · exact rx_true hx
      · exact rx_false hx
      · exact rx_nil hx
    | fail h => exact rx_fail hx h
    | var h => exact rx_var hx
    | call h =>
      have hc : (cmK xs xs.length).length ≤ 140737488355328 := by
        rw [shE_mk, show fm 7 x [] 0 0 0 (shL xs) = x ++ (40 :: (cm ((shL xs).map (·.2)) ++ [41])) from (by simp [fm]), ← cmK_all] at hln
        simp only [List.length_append, List.length_cons, List.length_nil] at hln
        omega
      exact rx_call hx (fun w A es h => rlist_w (by omega) hc hpa w A es h) hln
    | one h =>
      obtain ⟨a, rfl⟩ := len1 hle
      have e1 : cmK [a] ([a] : List Ex).length = pt (shL [a]) 0 0 := cmK_one a
      have hc : (cmK [a] ([a] : List Ex).length).length ≤ 140737488355328 := by
        rw [e1, pt_at 0 (by simp), brq_zero]
        exact lenB (wfL_at [a] hk 0 (by simp)) (by have := szE_at [a] 0 (by simp); omega)
      have hm := fun w A es h => rlist_w (by simp) hc hpa w A es h
      rcases h with rfl | rfl | rfl | rfl
      · exact rx_un14 hx hm e1 hc
      · exact rx_un15 hx hm e1 hc
      · exact rx_un16 hx hm e1 hc
      · exact rx_un17 hx hm e1 hc
    | two h =>
      rcases h with rfl | rfl | rfl | rfl | rfl | rfl | rfl
      · exact rx_op18 hx hln hpa hle
      · exact rx_op12 hx hln hpa hle
      · exact rx_op13 hx hln hpa hle
      · exact rx_op8 hx hln hpa hle
      · exact rx_op9 hx hln hpa hle
      · exact rx_op10 hx hln hpa hle
      · exact rx_op11 hx hln hpa hle
    | cond => exact rx_if hx hln hpa hle
    | bind h hy ht =>
      rcases h with rfl | rfl
      · exact rx_let21 hx ht hln hpa hle
      · exact rx_let22 hx ht hln hpa hle
    | look h1 h2 => exact rx_case hx hln hpa hle
end Go.Proofs.YtflennpocpbbpaaGreatDoor
/-
  The document's printer of a program, walked.
-/
namespace Go.Proofs.YtflennpocpbbpaaGreatDoor
open Go.RowKit
set_option maxRecDepth 100000

set_option maxHeartbeats 8000000 in
theorem rprogram_w {w : World} {A : Nat → Prop} {gs : List Fn1} (h : PrgOk gs) (hv : ∀ g ∈ gs, wfE LnN LnU g.body) {ao : Option Addr} {c : Nat} (hx : FlW w A ao gs) :
    Calls Tryz.prog 25 #[.agg #[.slice ao gs.length c]] w fun r w' => r = .returned (.string (bs (prT gs))) ∧ Below w.heap.size w w' := by
  have hb0 := below_alloc w (.cells #[.slice ao gs.length c] 42)
  have hE0 := Bk.new w 42 #[.slice ao gs.length c]
  generalize hW : w.alloc (.cells #[.slice ao gs.length c] 42) = W0 at *
  have HX : Hid (FlW W0 A ao gs) := hx.up hb0
  have HB0 : Hid (Below w.heap.size w W0) := hb0
  have HE0 : Hid (Bk W0 w.heap.size 42 [.slice ao gs.length c]) := hE0
  have HOK : Hid (PrgOk gs) := h
  have HV : Hid (∀ g ∈ gs, wfE LnN LnU g.body) := hv
  have hgl := h.num
  clear hb0 hE0 h hv hx
  go_enter Tryz.func25, Tryz.ntmps25
  go_upto_region 1 with fail
  first | rw [hW] | skip
  clear hW
  go_wp2_with fail
  go_loopw [3, 4] (fun s i wr => ∃ k : Nat, k ≤ gs.length ∧ i = .int .i64 k ∧ s = .string (bs (prT (gs.take k))) ∧ Below W0.heap.size W0 wr) (fun _ i _ => gs.length - (intOf i).toNat)
  case atStart => exact ⟨0, Nat.zero_le _, rfl, rfl, Below.refl _ _⟩
  case round =>
    obtain ⟨k, hkn, rfl, rfl, hBr⟩ := hrel
    obtain ⟨wo, rfl⟩ : ∃ wo, wo = wr := ⟨_, rfl⟩
    have p0 : wo.cell? ⟨w.heap.size, 0, none⟩ = some (.slice ao gs.length c) := (HE0.out.up hBr).cell 0
    by_cases hlt : k < gs.length
    · obtain ⟨G, vs, rfl, _, hu, hfn⟩ := (HX.out.up hBr).at k hlt
      have hmo := prT_mono gs hlt
      have hus := prT_succ hlt
      have hgm := getD_mem fd gs k hlt
      have hlen := HOK.out.len
      have hty := (HOK.out.wf _ hgm).ty
      have hpt := fun x hx => ((HOK.out.wf _ hgm).pms x hx).2
      have hpl := HOK.out.pms _ hgm
      have hrx := rexpr_w _ (gs.getD k fd).body (Nat.le_refl _) (HOK.out.sz _ hgm) (HOK.out.wf _ hgm).body (HV.out _ hgm)
      generalize hgp : gs.getD k fd = g at *
      obtain ⟨name, ps, ty, body, pos⟩ := g
      obtain ⟨aoP, cP, es, rfl, hpl1, he1⟩ := hfn
      dsimp only at hty hpt hpl hpl1 he1 hrx hu
      have hone : ∀ v ∈ Value.string (bs name) :: Value.slice aoP ps.length cP :: Value.int .i64 ty :: (es ++ [Value.int .i64 (pos : Nat)]), v.oneCell' = true := by
        intro v hv
        simp only [List.mem_cons, List.mem_append, List.not_mem_nil, or_false] at hv
        rcases hv with rfl | rfl | rfl | hv | rfl
        · rfl
        · rfl
        · rfl
        · exact he1.one v hv
        · rfl
      have hsumT : (prT (gs.take k)).length + (name.length + (1 + (pmK ps ps.length).length + 3 + (letT ty).length + 3 + (shE body).length + 2)) ≤ 140737488355328 := by
        have : (dfT ⟨name, ps, ty, body, pos⟩).length = name.length + (1 + (pmK ps ps.length).length + 3 + (letT ty).length + 3 + (shE body).length + 1) := by
          simp only [dfT, List.length_append, List.length_cons, List.length_nil]; omega
        omega
      obtain ⟨x0, x1, x2, x3, x4, x5, x6, rfl⟩ := list7 he1.len
      have hb5 := below_alloc wo (.cells #[.string ⟨#[]⟩, .slice none 0 0, .int .i64 0, .int .i64 0, .string ⟨#[]⟩, .string ⟨#[]⟩, .int .i64 0, .complex .f64 0 0, .slice none 0 0, .int .i64 0, .int .i64 0] 55)
      have hQ5 := Bk.new wo 55 #[.string ⟨#[]⟩, .slice none 0 0, .int .i64 0, .int .i64 0, .string ⟨#[]⟩, .string ⟨#[]⟩, .int .i64 0, .complex .f64 0 0, .slice none 0 0, .int .i64 0, .int .i64 0]
      have HBR : Hid (Below W0.heap.size W0 wo) := hBr
      have HB5 : Hid (Below wo.heap.size wo _) := hb5
      have HU : Hid (prT (gs.take (k + 1)) = _) := hus
      have HT : Hid (ty = 1 ∨ ty = 2 ∨ ty = 3) := hty
      have HPT : Hid (∀ x ∈ ps, x.ty = 1 ∨ x.ty = 2 ∨ x.ty = 3) := hpt
      have HRX : Hid (RxC body) := hrx
      have HPL : Hid (PlW wo A aoP ps) := hpl1
      have HEX : Hid (ExW wo A body [x0, x1, x2, x3, x4, x5, x6]) := he1
      have HSU : Hid ((prT (gs.take k)).length + (name.length + (1 + (pmK ps ps.length).length + 3 + (letT ty).length + 3 + (shE body).length + 2)) ≤ 140737488355328) := hsumT
      generalize hT0 : prT (gs.take k) = T0 at *
      have z1 : (bs T0).size + (bs name).size ≤ 9223372036854775807 := by simp only [bs_size]; omega
      have z2 : (bs T0).size + (bs name).size + 1 ≤ 9223372036854775807 := by simp only [bs_size]; omega
      clear hBr hb5 hus hty hpt hrx hpl1 he1 hsumT hmo hgp hgm hlen hT0
      go_upto_region 7 with (first
        | refine wpList_loadN rfl 55 (.tmp 17) rfl G (k * 11) rfl [.string (bs name), .slice aoP ps.length cP, .int .i64 ty, x0, x1, x2, x3, x4, x5, x6, .int .i64 (pos : Nat)] _ hu Tryz.underFn Tryz.infoFn ?_
        | (refine wpList_storeN rfl 55 (.tmp 5) (.tmp 18) rfl wo.heap.size 0 [.string (bs name), .slice aoP ps.length cP, .int .i64 ty, x0, x1, x2, x3, x4, x5, x6, .int .i64 (pos : Nat)] rfl rfl hQ5 (Nat.le_refl 11) Tryz.infoFn hone ?_; intro w6 hQ6 ho6; have c60 : w6.cell? ⟨wo.heap.size, 0, none⟩ = some (.string (bs name)) := hQ6.cell 0)
        | fail)
      have hb6 := below_oth HB5.out ho6 (Nat.le_refl _)
      have HB6 : Hid (Below wo.heap.size wo w6) := hb6
      have HQ6 : Hid (Bk w6 wo.heap.size 55 [.string (bs name), .slice aoP ps.length cP, .int .i64 ty, x0, x1, x2, x3, x4, x5, x6, .int .i64 (pos : Nat)]) := hQ6
      have HPL6 : Hid (PlW w6 A aoP ps) := HPL.out.up hb6
      have HEX6 : Hid (ExW w6 A body [x0, x1, x2, x3, x4, x5, x6]) := HEX.out.up hb6
      clear hQ5 hQ6 ho6 hb6 hu c60 hone
      go_wp2_with fail
      go_loopw [3, 6] (fun s i wr => ∃ n : Nat, n ≤ ps.length ∧ i = .int .i64 n ∧ s = .string (bs (T0 ++ (name ++ (40 :: pmK ps n)))) ∧ Below w6.heap.size w6 wr) (fun _ i _ => ps.length - (intOf i).toNat)
      case atStart =>
        refine ⟨0, Nat.zero_le _, rfl, ?_, Below.refl _ _⟩
        show Value.string (bs T0 ++ bs name ++ bs [40]) = _
        rw [bs_app, bs_app, List.append_assoc]
        rfl
      case round =>
        obtain ⟨n, hnn, rfl, rfl, hBx⟩ := hrel
        have q1 : wr.cell? ⟨wo.heap.size, 1, none⟩ = some (.slice aoP ps.length cP) := (HQ6.out.up hBx).cell 1
        by_cases hnl : n < ps.length
        · obtain ⟨GP, rfl, hup⟩ := (HPL6.out.up hBx).at n hnl
          have hmo := pmK_mono ps hnl
          have hus := pmK_succ hnl
          have hpk := HPT.out _ (getD_mem pd ps n hnl)
          generalize hgp : ps.getD n pd = P at *
          obtain ⟨pn, pt0, pp⟩ := P
          unfold pmC at hup
          dsimp only at hup hpk hmo hus
          unfold pmT at hmo hus
          simp only [List.length_append, List.length_cons, List.length_nil] at hmo
          have u0 : wr.cell? ⟨GP, n * 3, none⟩ = some (.string (bs pn)) := hup 0 _ rfl
          have u1 : wr.cell? ⟨GP, n * 3 + 1, none⟩ = some (.int .i64 pt0) := hup 1 _ rfl
          have HUP : Hid (wr.rangeAt GP (n * 3) [.string (bs pn), .int .i64 pt0, .int .i64 pp]) := hup
          have HUS : Hid (pmK ps (n + 1) = _) := hus
          have HBX : Hid (Below w6.heap.size w6 wr) := hBx
          have hlet := fun W => rletter_w hpk W
          have hsu := HSU.out
          have hnI : (n : Int) < ps.length := by omega
          have hn0 : (0 : Int) ≤ n := by omega
          generalize hA : T0 ++ (name ++ (40 :: pmK ps n)) = A0 at *
          have hAl : A0.length = T0.length + (name.length + (1 + (pmK ps n).length)) := by rw [← hA]; simp only [List.length_append, List.length_cons]; omega
          have HA : Hid (T0 ++ (name ++ (40 :: pmK ps n)) = A0) := hA
          have sB : ∀ W, Below wr.heap.size wr W → W.cell? ⟨wo.heap.size, 1, none⟩ = some (.slice (some ⟨GP, 0, none⟩) ps.length cP) ∧ W.cell? ⟨GP, n * 3, none⟩ = some (.string (bs pn)) ∧ W.cell? ⟨GP, n * 3 + 1, none⟩ = some (.int .i64 pt0) := fun W hW => ⟨(HQ6.out.up (Below.thn HBX.out hW)).cell 1, range_keep HUP.out (by simp) (fun hl => hW.block _ hl) 0 _ rfl, range_keep HUP.out (by simp) (fun hl => hW.block _ hl) 1 _ rfl⟩
          have s1 := sB wr (Below.refl _ _)
          have sD := sB wr.drew (Below.refl _ _).drew
          clear hup hus hBx hpk hgp hA
          by_cases h0 : n = 0
          · subst h0
            rw [if_pos rfl] at hmo
            have hps : (0 : Int) < ps.length := by omega
            have z1 : (bs A0).size + (bs pn).size ≤ 9223372036854775807 := by simp only [bs_size]; omega
            have z2 : (bs A0).size + (bs pn).size + 1 ≤ 9223372036854775807 := by simp only [bs_size]; omega
            have z3 : (bs A0).size + (bs pn).size + 1 + (bs (letT pt0)).size ≤ 9223372036854775807 := by simp only [bs_size]; omega
            have t1 : wr.cell? ⟨wo.heap.size, 1, none⟩ = some (.slice (some ⟨GP, 0, none⟩) ps.length cP) ∧ wr.cell? ⟨GP, 0, none⟩ = some (.string (bs pn)) ∧ wr.cell? ⟨GP, 1, none⟩ = some (.int .i64 pt0) := s1
            have tD : wr.drew.cell? ⟨wo.heap.size, 1, none⟩ = some (.slice (some ⟨GP, 0, none⟩) ps.length cP) ∧ wr.drew.cell? ⟨GP, 0, none⟩ = some (.string (bs pn)) ∧ wr.drew.cell? ⟨GP, 1, none⟩ = some (.int .i64 pt0) := sD
            clear hmo hsu hAl s1 sD sB
            go_upto_region 12 with fail
            have n1 : (9223372036854775807 < (bs A0).size + (bs pn).size) = False := eq_false (by omega)
            have n2 : (9223372036854775807 < (bs A0).size + (bs pn).size + 1) = False := eq_false (by omega)
            have n3 : (9223372036854775807 < (bs A0).size + (bs pn).size + 1 + (bs (letT pt0)).size) = False := eq_false (by omega)
            go_region_held3 (fun W => W.cell? ⟨wo.heap.size, 1, none⟩ = some (.slice (some ⟨GP, 0, none⟩) ps.length cP) ∧ W.cell? ⟨GP, 0, none⟩ = some (.string (bs pn)) ∧ W.cell? ⟨GP, 1, none⟩ = some (.int .i64 pt0)) (first | (with_reducible exact t1) | (with_reducible exact tD)) (first
              | (go_at_call 42; with_reducible refine Calls.mono (hlet _) ?_; rintro r wq ⟨rfl, hwq⟩; rw [hwq]; clear hwq)
              | fail)
            all_goals
              clear t1 tD
              go_wp2_with fail
              go_roundw
              case rel =>
                refine ⟨0 + 1, by omega, by go_num, ?_, Below.thn HBX.out (Below.refl _ _).drew⟩
                rw [HUS.out, if_pos trivial, List.nil_append]
                have e9 : T0 ++ (name ++ (40 :: (pmK ps 0 ++ ((pn ++ [32] ++ letT pt0))))) = A0 ++ ((pn ++ [32] ++ letT pt0)) := by rw [← HA.out]; simp
                rw [e9]
                simp only [← bs_app, ByteArray.append_assoc]
                rfl
              case measure => simp [intOf]; omega
          · have hk0 : (0 : Int) < n := by omega
            have HK0 : Hid (¬ n = 0) := h0
            rw [if_neg h0] at hmo
            have z0 : (bs A0).size + 2 ≤ 9223372036854775807 := by simp only [bs_size]; omega
            clear h0
            have z1 : (bs A0).size + 2 + (bs pn).size ≤ 9223372036854775807 := by simp only [bs_size]; omega
            have z2 : (bs A0).size + 2 + (bs pn).size + 1 ≤ 9223372036854775807 := by simp only [bs_size]; omega
            have z3 : (bs A0).size + 2 + (bs pn).size + 1 + (bs (letT pt0)).size ≤ 9223372036854775807 := by simp only [bs_size]; omega
            have t1 : wr.cell? ⟨wo.heap.size, 1, none⟩ = some (.slice (some ⟨GP, 0, none⟩) ps.length cP) ∧ wr.cell? ⟨GP, n * 3, none⟩ = some (.string (bs pn)) ∧ wr.cell? ⟨GP, n * 3 + 1, none⟩ = some (.int .i64 pt0) := s1
            have tD : wr.drew.cell? ⟨wo.heap.size, 1, none⟩ = some (.slice (some ⟨GP, 0, none⟩) ps.length cP) ∧ wr.drew.cell? ⟨GP, n * 3, none⟩ = some (.string (bs pn)) ∧ wr.drew.cell? ⟨GP, n * 3 + 1, none⟩ = some (.int .i64 pt0) := sD
            clear hmo hsu hAl s1 sD sB
            go_upto_region 12 with fail
            have n1 : (9223372036854775807 < (bs A0).size + 2 + (bs pn).size) = False := eq_false (by omega)
            have n2 : (9223372036854775807 < (bs A0).size + 2 + (bs pn).size + 1) = False := eq_false (by omega)
            have n3 : (9223372036854775807 < (bs A0).size + 2 + (bs pn).size + 1 + (bs (letT pt0)).size) = False := eq_false (by omega)
            go_region_held3 (fun W => W.cell? ⟨wo.heap.size, 1, none⟩ = some (.slice (some ⟨GP, 0, none⟩) ps.length cP) ∧ W.cell? ⟨GP, n * 3, none⟩ = some (.string (bs pn)) ∧ W.cell? ⟨GP, n * 3 + 1, none⟩ = some (.int .i64 pt0)) (first | (with_reducible exact t1) | (with_reducible exact tD)) (first
              | (go_at_call 42; with_reducible refine Calls.mono (hlet _) ?_; rintro r wq ⟨rfl, hwq⟩; rw [hwq]; clear hwq)
              | fail)
            all_goals
              clear t1 tD
              go_wp2_with fail
              go_roundw
              case rel =>
                refine ⟨n + 1, by omega, by go_num, ?_, Below.thn HBX.out (Below.refl _ _).drew⟩
                rw [HUS.out, if_neg HK0.out]
                have e9 : T0 ++ (name ++ (40 :: (pmK ps n ++ ([44, 32] ++ (pn ++ [32] ++ letT pt0))))) = A0 ++ ([44, 32] ++ (pn ++ [32] ++ letT pt0)) := by rw [← HA.out]; simp
                rw [e9]
                simp only [← bs_app, ByteArray.append_assoc]
                rfl
              case measure => simp [intOf]; omega
        · have hne : n = ps.length := by omega
          subst hne
          have hsu := HSU.out
          generalize hA : T0 ++ (name ++ (40 :: pmK ps ps.length)) = A0 at *
          have hAl : A0.length = T0.length + (name.length + (1 + (pmK ps ps.length).length)) := by rw [← hA]; simp only [List.length_append, List.length_cons]; omega
          have HA : Hid (T0 ++ (name ++ (40 :: pmK ps ps.length)) = A0) := hA
          have hlet := fun W => rletter_w HT.out W
          have HBX : Hid (Below w6.heap.size w6 wr) := hBx
          have hex : ∀ W, Below wr.heap.size wr W → Calls Tryz.prog 23 #[.agg #[x0, x1, x2, x3, x4, x5, x6]] W fun r w' => r = .returned (.string (bs (shE body))) ∧ Below W.heap.size W w' := fun W hW => HRX.out W A _ (HEX6.out.up (Below.thn HBX.out hW))
          generalize hB : shE body = B0 at *
          have HBO : Hid (shE body = B0) := hB
          have z1 : (bs A0).size + 3 ≤ 9223372036854775807 := by simp only [bs_size]; omega
          have z2 : (bs A0).size + 3 + (bs (letT ty)).size ≤ 9223372036854775807 := by simp only [bs_size]; omega
          have z3 : (bs A0).size + 3 + (bs (letT ty)).size + 3 ≤ 9223372036854775807 := by simp only [bs_size]; omega
          have z4 : (bs A0).size + 3 + (bs (letT ty)).size + 3 + (bs B0).size ≤ 9223372036854775807 := by simp only [bs_size]; omega
          have z5 : (bs A0).size + 3 + (bs (letT ty)).size + 3 + (bs B0).size + 2 ≤ 9223372036854775807 := by simp only [bs_size]; omega
          have sB : ∀ W, Below wr.heap.size wr W → W.cell? ⟨wo.heap.size, 2, none⟩ = some (.int .i64 ty) ∧ W.cell? ⟨wo.heap.size, 3, none⟩ = some x0 ∧ W.cell? ⟨wo.heap.size, 4, none⟩ = some x1 ∧ W.cell? ⟨wo.heap.size, 5, none⟩ = some x2 ∧ W.cell? ⟨wo.heap.size, 6, none⟩ = some x3 ∧ W.cell? ⟨wo.heap.size, 7, none⟩ = some x4 ∧ W.cell? ⟨wo.heap.size, 8, none⟩ = some x5 ∧ W.cell? ⟨wo.heap.size, 9, none⟩ = some x6 := fun W h => have q := HQ6.out.up (Below.thn HBX.out h); ⟨q.cell 2, q.cell 3, q.cell 4, q.cell 5, q.cell 6, q.cell 7, q.cell 8, q.cell 9⟩
          have hB1 := Below.refl wr.heap.size wr
          have hBD := (Below.refl wr.heap.size wr).drew
          have s1 := sB wr hB1
          have sD := sB wr.drew hBD
          clear hsu hAl hA hBx hB
          go_upto_region 13 with fail
          have n1 : (9223372036854775807 < (bs A0).size + 3) = False := eq_false (by omega)
          have n2 : (9223372036854775807 < (bs A0).size + 3 + (bs (letT ty)).size) = False := eq_false (by omega)
          have n3 : (9223372036854775807 < (bs A0).size + 3 + (bs (letT ty)).size + 3) = False := eq_false (by omega)
          have n4 : (9223372036854775807 < (bs A0).size + 3 + (bs (letT ty)).size + 3 + (bs B0).size) = False := eq_false (by omega)
          have n5 : (9223372036854775807 < (bs A0).size + 3 + (bs (letT ty)).size + 3 + (bs B0).size + 2) = False := eq_false (by omega)
          go_region_held3 (fun W => W.cell? ⟨wo.heap.size, 2, none⟩ = some (.int .i64 ty) ∧ W.cell? ⟨wo.heap.size, 3, none⟩ = some x0 ∧ W.cell? ⟨wo.heap.size, 4, none⟩ = some x1 ∧ W.cell? ⟨wo.heap.size, 5, none⟩ = some x2 ∧ W.cell? ⟨wo.heap.size, 6, none⟩ = some x3 ∧ W.cell? ⟨wo.heap.size, 7, none⟩ = some x4 ∧ W.cell? ⟨wo.heap.size, 8, none⟩ = some x5 ∧ W.cell? ⟨wo.heap.size, 9, none⟩ = some x6) (first | (with_reducible exact s1) | (with_reducible exact sD) | (with_reducible assumption)) (first
            | (go_at_call 42; with_reducible refine Calls.mono (hlet _) ?_; rintro r wq ⟨rfl, hwq⟩; rw [hwq]; clear hwq)
            | (go_at_call 23; with_reducible refine Calls.mono (hex _ (by assumption)) ?_; rintro r wz ⟨rfl, hbz⟩; have hBz := Below.thn (show Below wr.heap.size wr _ by assumption) hbz; have sz := sB wz hBz; clear hbz)
            | fail)
          all_goals
            have HBZ : Hid (Below W0.heap.size W0 wz) := Below.thn HBR.out (Below.thn HB6.out (Below.thn HBX.out hBz))
            clear s1 sD hBz sB hex hlet
            go_wp2_with fail
            go_roundw
            case rel =>
              refine ⟨k + 1, by omega, by go_num, ?_, HBZ.out⟩
              rw [HU.out]
              have e9 : T0 ++ (dfT ⟨name, ps, ty, body, pos⟩ ++ [10]) = A0 ++ [41, 58, 32] ++ letT ty ++ [32, 61, 32] ++ B0 ++ [59, 10] := by rw [← HA.out, ← HBO.out]; simp [dfT]
              rw [e9]
              simp only [← bs_app]
              rfl
            case measure => simp [intOf]; omega
    · have hke : k = gs.length := by omega
      subst hke
      rw [List.take_length]
      have HB3 : Hid (Below w.heap.size w wo) := Below.thn HB0.out hBr
      clear hBr
      go_wp2_with fail
      go_ret
      exact ⟨rfl, HB3.out⟩
end Go.Proofs.YtflennpocpbbpaaGreatDoor
