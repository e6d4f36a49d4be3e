/-
  2 texts in one: what each proves stands at its head.
-/
import Derived.Test.YtndgglhppoijnaaDoorUO
import Derived.Test.YtndgglhppoijnaaDoorUW
import Derived.Test.YtndgglhppoijnaaDoorUE
import Derived.Deep.DeepCutAuto
import Derived.Deep.RegionWith
import Derived.Test.YtndgglhppoijnaaDoorSc
/-
  The walks of SameExpr at any two trees that were read: what it answers tells whether they are one, but for places.
-/
namespace Go.Proofs.YtndgglhppoijnaaDoor
open Go.RowKit
set_option maxRecDepth 100000

abbrev wfN : Ex → Prop := wfE IsNm (IsNu rdN)
def NuS : Prop := ∀ p q, IsNu rdN p q → p.natAbs ≤ 16777216 ∧ q.natAbs ≤ 16777216
theorem shp_small (hN : NuS) {op : Int} {a b : List UInt8} {t p q : Int} {n : Nat} (h : Shp IsNm (IsNu rdN) op a b t p q n) : p.natAbs ≤ 16777216 ∧ q.natAbs ≤ 16777216 := by
  cases h <;> first | exact hN _ _ ‹_› | exact ⟨by decide, by decide⟩
theorem ford_of {p q : Int} (hp : p.natAbs ≤ 16777216) (hq : q.natAbs ≤ 16777216) : FloatKind.f64.format.order (fl p) (fl q) = some (compare p q) := rep_order (rep_fl p (by omega)) (rep_fl q (by omega))
theorem exs_of : ∀ (xs ys : List Ex), xs.length = ys.length → (∀ t, t < xs.length → ExR tt (xs.getD t ed) (ys.getD t ed)) → ExsR tt xs ys
  | [], [], _, _ => .nil
  | [], _ :: _, h, _ => by simp at h
  | _ :: _, [], h, _ => by simp at h
  | x :: xs, y :: ys, h, k => .cons (k 0 (by simp)) (exs_of xs ys (by simpa using h) fun t ht => by
      have := k (t + 1) (by simpa using ht)
      rwa [List.getD_cons_succ, List.getD_cons_succ] at this)
/-- What is answered, and what it tells. -/
def TotE (x y : Ex) (e : Ending) : Prop := ∃ b, e = .returned (.bool b) ∧ (b = true → ExR tt x y)
set_option maxHeartbeats 8000000 in
theorem sameExpr_tot (hN : NuS) : ∀ (n : Nat) (x y : Ex), szE x ≤ n → n ≤ 1073741824 → wfN x → wfN y → ∀ (w : World) (A A' : Nat → Prop) (us vs : List Value), ExW w A x us → ExW w A' y vs →
    Calls Tryd.prog 22 #[.agg us.toArray, .agg vs.toArray, .bool false] w fun e w' => TotE x y e ∧ Below w.heap.size w w' := by
  intro n
  induction n with
  | zero => intro x y h; have := szE_pos x; omega
  | succ n ih =>
    intro x y ht hn hwx hwy w A A' us vs hx hy
    cases hx with
    | mk hl =>
      rename_i op name tail ty p q xs i ao c
      cases hy with
      | mk hl' =>
        rename_i op' name' tail' ty' p' q' ys j ao' c'
        unfold wfN at hwx hwy
        rw [wfE_mk] at hwx hwy
        have hsx := shp_small hN hwx.1
        have hsy := shp_small hN hwy.1
        rw [szE_mk] at ht
        have hlen := length_szL xs
        obtain ⟨V1, hV1⟩ : ∃ V : Array Value, V = #[.int .i64 op, .string (bs name), .string (bs tail), .int .i64 ty, .complex .f64 (fl p) (fl q), .slice ao xs.length c, .int .i64 i] := ⟨_, rfl⟩
        obtain ⟨V2, hV2⟩ : ∃ V : Array Value, V = #[.int .i64 op', .string (bs name'), .string (bs tail'), .int .i64 ty', .complex .f64 (fl p') (fl q'), .slice ao' ys.length c', .int .i64 j] := ⟨_, rfl⟩
        have hb0 := below_two w (.cells V1 39) (.cells V2 39)
        have hL1 := (Bk.new w 39 V1).up (below_alloc _ (.cells V2 39))
        have hL2 := Bk.newAt (w := w.alloc (.cells V1 39)) (n := w.heap.size + 1) 39 V2 (by simp)
        have hl1 := hl.up hb0
        have hl2 := hl'.up hb0
        rw [hV1, hV2] at hb0 hL1 hL2 hl1 hl2
        clear hV1 hV2 hl hl'
        have HW : Hid (wfL IsNm (IsNu rdN) xs ∧ wfL IsNm (IsNu rdN) ys) := ⟨hwx.2, hwy.2⟩
        have HS : Hid ((p.natAbs ≤ 16777216 ∧ q.natAbs ≤ 16777216) ∧ (p'.natAbs ≤ 16777216 ∧ q'.natAbs ≤ 16777216)) := ⟨hsx, hsy⟩
        clear hwx hwy hsx hsy
        go_enter Tryd.func22, Tryd.ntmps22
        go_upto_region 1 with fail
        obtain ⟨W2, hW2⟩ : ∃ W2, W2 = (w.alloc (.cells #[.int .i64 op, .string (bs name), .string (bs tail), .int .i64 ty, .complex .f64 (fl p) (fl q), .slice ao xs.length c, .int .i64 i] 39)).alloc (.cells #[.int .i64 op', .string (bs name'), .string (bs tail'), .int .i64 ty', .complex .f64 (fl p') (fl q'), .slice ao' ys.length c', .int .i64 j] 39) := ⟨_, rfl⟩
        rw [← hW2] at hb0 hL1 hL2 hl1 hl2 ⊢
        clear hW2
        obtain ⟨a0, a1, a2, a3, a4, a5, a6⟩ := Bk.seven (show Bk W2 w.heap.size 39 [_, _, _, _, _, _, _] from hL1)
        obtain ⟨b0, b1, b2, b3, b4, b5, b6⟩ := Bk.seven (show Bk W2 (w.heap.size + 1) 39 [_, _, _, _, _, _, _] from hL2)
        by_cases hop : op = op'
        rotate_left
        · have g1 : (op != op') = true := by simpa using hop
          go_wp2
          go_ret
          exact ⟨⟨false, rfl, fun e => by cases e⟩, hb0⟩
        subst hop
        by_cases hname : name = name'
        rotate_left
        · have g1 : ((bs name).toList == (bs name').toList) = false := by rw [bs_toList, bs_toList]; simpa using hname
          go_wp2
          go_ret
          exact ⟨⟨false, rfl, fun e => by cases e⟩, hb0⟩
        subst hname
        by_cases htail : tail = tail'
        rotate_left
        · have g1 : ((bs tail).toList == (bs tail').toList) = false := by rw [bs_toList, bs_toList]; simpa using htail
          go_wp2
          go_ret
          exact ⟨⟨false, rfl, fun e => by cases e⟩, hb0⟩
        subst htail
        by_cases hty : ty = ty'
        rotate_left
        · have g1 : (ty != ty') = true := by simpa using hty
          go_wp2
          go_ret
          exact ⟨⟨false, rfl, fun e => by cases e⟩, hb0⟩
        subst hty
        by_cases hp : p = p'
        rotate_left
        · have go : FloatKind.f64.format.order (fl p) (fl p') = some (compare p p') := ford_of HS.out.1.1 HS.out.2.1
          have gc : compare p p' = .lt ∨ compare p p' = .gt := by
            cases e : compare p p' with
            | lt => exact .inl rfl
            | gt => exact .inr rfl
            | eq => exact absurd (Int.compare_eq_eq.1 e) hp
          rcases gc with gc | gc
          · rw [gc] at go
            clear gc
            go_wp2
            go_ret
            exact ⟨⟨false, rfl, fun e => by cases e⟩, hb0⟩
          · rw [gc] at go
            clear gc
            go_wp2
            go_ret
            exact ⟨⟨false, rfl, fun e => by cases e⟩, hb0⟩
        subst hp
        have ho1 := ford_all p
        by_cases hq : q = q'
        rotate_left
        · have go : FloatKind.f64.format.order (fl q) (fl q') = some (compare q q') := ford_of HS.out.1.2 HS.out.2.2
          have gc : compare q q' = .lt ∨ compare q q' = .gt := by
            cases e : compare q q' with
            | lt => exact .inl rfl
            | gt => exact .inr rfl
            | eq => exact absurd (Int.compare_eq_eq.1 e) hq
          rcases gc with gc | gc
          · rw [gc] at go
            clear gc
            go_wp2
            go_ret
            exact ⟨⟨false, rfl, fun e => by cases e⟩, hb0⟩
          · rw [gc] at go
            clear gc
            go_wp2
            go_ret
            exact ⟨⟨false, rfl, fun e => by cases e⟩, hb0⟩
        subst hq
        have ho2 := ford_all q
        by_cases hle : xs.length = ys.length
        rotate_left
        · have g1 : ((xs.length : Int) != (ys.length : Int)) = true := by simp; omega
          go_wp2
          go_ret
          exact ⟨⟨false, rfl, fun e => by cases e⟩, hb0⟩
        rw [← hle] at b5 hL2
        have HLE : Hid (xs.length = ys.length) := hle
        clear hle
        go_wp2
        clear a0 a1 a2 a3 a4 a5 a6 b0 b1 b2 b3 b4 b5 b6 ho1 ho2
        go_loopw [7] (fun v wr => ∃ k : Nat, k ≤ xs.length ∧ v = .int .i64 k ∧ Below W2.heap.size W2 wr ∧ Hid (∀ t, t < k → ExR tt (xs.getD t ed) (ys.getD t ed))) (fun v _ => xs.length - (intOf v).toNat)
        case atStart => exact ⟨0, Nat.zero_le _, rfl, Below.refl _ _, fun t h => by omega⟩
        case round =>
          obtain ⟨k, hkn, rfl, hB, HF⟩ := hrel
          obtain ⟨_, _, _, _, _, a5, _⟩ := Bk.seven (show Bk wr w.heap.size 39 [_, _, _, _, _, _, _] from hL1.up hB)
          obtain ⟨_, _, _, _, _, b5, _⟩ := Bk.seven (show Bk wr (w.heap.size + 1) 39 [_, _, _, _, _, _, _] from hL2.up hB)
          by_cases hlt : k < xs.length
          · obtain ⟨b, off, rfl⟩ := hl1.place (by intro e; simp [e] at hlt)
            have hlt' : k < ys.length := by rw [← show xs.length = ys.length from HLE]; exact hlt
            obtain ⟨b', off', rfl⟩ := hl2.place (by intro e; simp [e] at hlt')
            obtain ⟨us, hu, hxu⟩ := (hl1.up hB).at k hlt
            obtain ⟨vs, hv, hxv⟩ := (hl2.up hB).at k hlt'
            have hsz := szE_at xs k hlt
            have hcall : ∀ W, Below wr.heap.size wr W → Calls Tryd.prog 22 #[.agg us.toArray, .agg vs.toArray, .bool false] W fun e w' => TotE (xs.getD k ed) (ys.getD k ed) e ∧ Below W.heap.size W w' :=
              fun W hW => ih _ _ (by omega) (by omega) (wfL_at xs HW.out.1 k hlt) (wfL_at ys HW.out.2 k hlt') W A A' us vs (hxu.up hW) (hxv.up hW)
            obtain ⟨u0, u1, u2, u3, u4, u5, u6, rfl⟩ := list7 hxu.len
            obtain ⟨v0, v1, v2, v3, v4, v5, v6, rfl⟩ := list7 hxv.len
            obtain ⟨c0, c1, c2, c3, c4, c5, c6⟩ := range7 hu
            obtain ⟨d0, d1, d2, d3, d4, d5, d6⟩ := range7 hv
            clear hu hv hxu hxv
            go_wp2
            go_region_with (go_at_call 22; refine (hcall _ (Below.refl _ wr).drew).mono ?_; rintro e w7 ⟨⟨bb, rfl, hbb⟩, hb7⟩; have q7 := Below.thn hB (Below.thn (Below.refl _ wr).drew hb7); have HBB : Hid (bb = true → ExR tt (xs.getD k ed) (ys.getD k ed)) := hbb; clear hbb)
            all_goals
              cases bb
              · have hB3 := Below.thn hb0 q7
                go_wp2
                go_ret
                exact ⟨⟨false, rfl, fun e => by cases e⟩, hB3⟩
              · go_wp2
                go_roundw
                case rel =>
                  refine ⟨k + 1, by omega, by go_num, q7, fun t ht => ?_⟩
                  by_cases e : t = k
                  · subst e; exact HBB.out rfl
                  · exact HF.out t (by omega)
                case measure => simp [intOf]; omega
          · have hke : k = xs.length := by omega
            subst hke
            have hB3 := Below.thn hb0 hB
            go_wp2
            go_ret
            exact ⟨⟨true, rfl, fun _ => .mk trivial (exs_of xs ys HLE.out HF.out)⟩, hB3⟩
end Go.Proofs.YtndgglhppoijnaaDoor
/-
  The walks of SameFunc and Same at any two programs that were read.
-/
namespace Go.Proofs.YtndgglhppoijnaaDoor
open Go.RowKit
set_option maxRecDepth 100000

theorem lir_of {α : Type} {A : α → α → Prop} (d : α) : ∀ (xs ys : List α), xs.length = ys.length → (∀ t, t < xs.length → A (xs.getD t d) (ys.getD t d)) → LiR A xs ys
  | [], [], _, _ => .nil
  | [], _ :: _, h, _ => by simp at h
  | _ :: _, [], h, _ => by simp at h
  | x :: xs, y :: ys, h, k => .cons (k 0 (by simp)) (lir_of d xs ys (by simpa using h) fun t ht => by
      have := k (t + 1) (by simpa using ht)
      rwa [List.getD_cons_succ, List.getD_cons_succ] at this)
def TotF (x y : Fn1) (e : Ending) : Prop := ∃ b, e = .returned (.bool b) ∧ (b = true → FnR tt x y)
def TotP (x y : List Fn1) (e : Ending) : Prop := ∃ b, e = .returned (.bool b) ∧ (b = true → LiR (FnR tt) x y)

set_option maxHeartbeats 8000000 in
theorem sameFunc_tot (hN : NuS) (x y : Fn1) (hsz : szE x.body ≤ 1073741824) (hpm : x.pms.length ≤ 9223372036854775807) (hwx : wfN x.body) (hwy : wfN y.body) (w : World) (A A' : Nat → Prop) (us vs : List Value) (hx : FnW w A x us) (hy : FnW w A' y vs) :
    Calls Tryd.prog 14 #[.agg us.toArray, .agg vs.toArray, .bool false] w fun e w' => TotF x y e ∧ Below w.heap.size w w' := by
  obtain ⟨ao, c, es, rfl, hp1, he1⟩ := hx
  obtain ⟨ao', c', es', rfl, hp2, he2⟩ := hy
  obtain ⟨name, ps, ty, body, i⟩ := x
  obtain ⟨name', ps', ty', body', j⟩ := y
  dsimp only at hp1 hp2 he1 he2 hsz hpm hwx hwy
  have hcall : ∀ W, Below w.heap.size w W → Calls Tryd.prog 22 #[.agg es.toArray, .agg es'.toArray, .bool false] W fun e w' => TotE body body' e ∧ Below W.heap.size W w' :=
    fun W hW => sameExpr_tot hN _ body body' (Nat.le_refl _) hsz hwx hwy W A A' es es' (he1.up hW) (he2.up hW)
  obtain ⟨x0, x1, x2, x3, x4, x5, x6, rfl⟩ := list7 he1.len
  obtain ⟨y0, y1, y2, y3, y4, y5, y6, rfl⟩ := list7 he2.len
  clear he1 he2 hwx hwy
  simp only [List.cons_append, List.nil_append]
  have hb0 := below_two w (.cells #[.string (bs name), .slice ao ps.length c, .int .i64 ty, x0, x1, x2, x3, x4, x5, x6, .int .i64 i] 41) (.cells #[.string (bs name'), .slice ao' ps'.length c', .int .i64 ty', y0, y1, y2, y3, y4, y5, y6, .int .i64 j] 41)
  have hL1 := (Bk.new w 41 #[.string (bs name), .slice ao ps.length c, .int .i64 ty, x0, x1, x2, x3, x4, x5, x6, .int .i64 i]).up (below_alloc _ (.cells #[.string (bs name'), .slice ao' ps'.length c', .int .i64 ty', y0, y1, y2, y3, y4, y5, y6, .int .i64 j] 41))
  have hL2 := Bk.newAt (w := w.alloc (.cells #[.string (bs name), .slice ao ps.length c, .int .i64 ty, x0, x1, x2, x3, x4, x5, x6, .int .i64 i] 41)) (n := w.heap.size + 1) 41 #[.string (bs name'), .slice ao' ps'.length c', .int .i64 ty', y0, y1, y2, y3, y4, y5, y6, .int .i64 j] (by simp)
  go_enter Tryd.func14, Tryd.ntmps14
  go_upto_region 1 with fail
  obtain ⟨W2, hW2⟩ : ∃ W2, W2 = (w.alloc (.cells #[.string (bs name), .slice ao ps.length c, .int .i64 ty, x0, x1, x2, x3, x4, x5, x6, .int .i64 i] 41)).alloc (.cells #[.string (bs name'), .slice ao' ps'.length c', .int .i64 ty', y0, y1, y2, y3, y4, y5, y6, .int .i64 j] 41) := ⟨_, rfl⟩
  rw [← hW2] at hb0 hL1 hL2 ⊢
  clear hW2
  obtain ⟨a0, a1, a2, -, -, -, -, -, -, -, a10⟩ := Bk.eleven (show Bk W2 w.heap.size 41 [_, _, _, _, _, _, _, _, _, _, _] from hL1)
  obtain ⟨b0, b1, b2, -, -, -, -, -, -, -, b10⟩ := Bk.eleven (show Bk W2 (w.heap.size + 1) 41 [_, _, _, _, _, _, _, _, _, _, _] from hL2)
  by_cases hname : name = name'
  rotate_left
  · have g1 : ((bs name).toList == (bs name').toList) = false := by rw [bs_toList, bs_toList]; simpa using hname
    go_wp2
    go_ret
    exact ⟨⟨false, rfl, fun e => by cases e⟩, hb0⟩
  subst hname
  by_cases hty : ty = ty'
  rotate_left
  · have g1 : (ty != ty') = true := by simpa using hty
    go_wp2
    go_ret
    exact ⟨⟨false, rfl, fun e => by cases e⟩, hb0⟩
  subst hty
  by_cases hle : ps.length = ps'.length
  rotate_left
  · have g1 : ((ps.length : Int) != (ps'.length : Int)) = true := by simp; omega
    go_wp2
    go_ret
    exact ⟨⟨false, rfl, fun e => by cases e⟩, hb0⟩
  rw [← hle] at b1 hL2
  have HLE : Hid (ps.length = ps'.length) := hle
  clear hle
  go_wp2
  clear a0 a1 a2 a10 b0 b1 b2 b10
  go_loopw [7] (fun v wr => ∃ k : Nat, k ≤ ps.length ∧ v = .int .i64 k ∧ Below W2.heap.size W2 wr ∧ Hid (∀ t, t < k → PmR tt (ps.getD t pd) (ps'.getD t pd))) (fun v _ => ps.length - (intOf v).toNat)
  case atStart => exact ⟨0, Nat.zero_le _, rfl, Below.refl _ _, fun t h => by omega⟩
  case round =>
    obtain ⟨k, hkn, rfl, hB, HF⟩ := hrel
    have hM1 := hL1.up hB
    have hM2 := hL2.up hB
    obtain ⟨-, a1, -⟩ := Bk.eleven (show Bk wr w.heap.size 41 [_, _, _, _, _, _, _, _, _, _, _] from hM1)
    obtain ⟨-, b1, -⟩ := Bk.eleven (show Bk wr (w.heap.size + 1) 41 [_, _, _, _, _, _, _, _, _, _, _] from hM2)
    by_cases hlt : k < ps.length
    · have hlt' : k < ps'.length := by rw [← show ps.length = ps'.length from HLE]; exact hlt
      obtain ⟨g, rfl, hu⟩ := PlW.at ((hp1.up hb0).up hB) k hlt
      obtain ⟨g', rfl, hv⟩ := PlW.at ((hp2.up hb0).up hB) k hlt'
      have HK : Hid (∀ q q' : Pm, q = ps.getD k pd → q' = ps'.getD k pd → PmR tt q q' → ∀ t, t < k + 1 → PmR tt (ps.getD t pd) (ps'.getD t pd)) := fun q q' h1 h2 h3 t ht => by
        by_cases e : t = k
        · subst e; rw [← h1, ← h2]; exact h3
        · exact HF.out t (by omega)
      obtain ⟨p, hp⟩ : ∃ p, p = ps.getD k pd := ⟨_, rfl⟩
      obtain ⟨p', hp'⟩ : ∃ p, p = ps'.getD k pd := ⟨_, rfl⟩
      rw [← hp] at hu
      rw [← hp'] at hv
      have HK2 : Hid (PmR tt p p' → ∀ t, t < k + 1 → PmR tt (ps.getD t pd) (ps'.getD t pd)) := HK.out p p' hp hp'
      clear hp hp' HK
      obtain ⟨n1, t1, s1⟩ := p
      obtain ⟨n2, t2, s2⟩ := p'
      obtain ⟨c0, c1, c2⟩ := range3 (show wr.rangeAt g (k * 3) [_, _, _] from hu)
      have hx3 := below_alloc wr (.cells #[.string (bs n1), .int .i64 t1, .int .i64 s1] 69)
      obtain ⟨d0, d1, d2⟩ := range3 (show (wr.alloc (.cells #[.string (bs n1), .int .i64 t1, .int .i64 s1] 69)).rangeAt g' (k * 3) [.string (bs n2), .int .i64 t2, .int .i64 s2] from range_keep hv (by simp) fun hl => hx3.block _ hl)
      obtain ⟨-, b1, -⟩ := Bk.eleven (show Bk (wr.alloc (.cells #[.string (bs n1), .int .i64 t1, .int .i64 s1] 69)) (w.heap.size + 1) 41 [_, _, _, _, _, _, _, _, _, _, _] from hM2.up hx3)
      obtain ⟨e0, e1, e2⟩ := Bk.three (show Bk ((wr.alloc (.cells #[.string (bs n1), .int .i64 t1, .int .i64 s1] 69)).alloc (.cells #[.string (bs n2), .int .i64 t2, .int .i64 s2] 69)) wr.heap.size 69 [_, _, _] from (Bk.new wr 69 #[.string (bs n1), .int .i64 t1, .int .i64 s1]).up (below_alloc _ _))
      obtain ⟨f0, f1, f2⟩ := Bk.three (show Bk ((wr.alloc (.cells #[.string (bs n1), .int .i64 t1, .int .i64 s1] 69)).alloc (.cells #[.string (bs n2), .int .i64 t2, .int .i64 s2] 69)) (wr.heap.size + 1) 69 [_, _, _] from Bk.newAt 69 #[.string (bs n2), .int .i64 t2, .int .i64 s2] (by simp))
      have hB4 := Below.thn hB (below_two wr (.cells #[.string (bs n1), .int .i64 t1, .int .i64 s1] 69) (.cells #[.string (bs n2), .int .i64 t2, .int .i64 s2] 69))
      have hB5 := Below.thn hb0 hB4
      clear hu hv hcall hM1 hM2 hx3
      by_cases hn12 : n1 = n2
      rotate_left
      · have g1 : ((bs n1).toList == (bs n2).toList) = false := by rw [bs_toList, bs_toList]; simpa using hn12
        go_wp2
        go_ret
        exact ⟨⟨false, rfl, fun e => by cases e⟩, hB5⟩
      subst hn12
      by_cases ht12 : t1 = t2
      rotate_left
      · have g1 : (t1 != t2) = true := by simpa using ht12
        go_wp2
        go_ret
        exact ⟨⟨false, rfl, fun e => by cases e⟩, hB5⟩
      subst ht12
      go_wp2
      go_roundw
      case rel => exact ⟨k + 1, by omega, by go_num, hB4, HK2.out ⟨rfl, rfl, trivial⟩⟩
      case measure => simp [intOf]; omega
    · have hke : k = ps.length := by omega
      subst hke
      have hcl := hcall wr (Below.thn hb0 hB)
      have hB3 := Below.thn hb0 hB
      go_wp2_with (first
        | refine wpList_loadN rfl 39 (.tmp 80) rfl w.heap.size 3 rfl [x0, x1, x2, x3, x4, x5, x6] _ (hM1.range 3 7) Tryd.underE Tryd.infoE ?_
        | refine wpList_loadN rfl 39 (.tmp 82) rfl (w.heap.size + 1) 3 rfl [y0, y1, y2, y3, y4, y5, y6] _ (hM2.range 3 7) Tryd.underE Tryd.infoE ?_)
      refine hcl.mono ?_
      rintro e w7 ⟨⟨bb, rfl, hbb⟩, hb7⟩
      have q7 := Below.thn hB3 hb7
      have HE : Hid (bb = true → FnR tt ⟨name, ps, ty, body, i⟩ ⟨name, ps', ty, body', j⟩) := fun e => ⟨rfl, lir_of pd ps ps' HLE.out HF.out, rfl, hbb e, trivial⟩
      clear hbb
      go_wp2
      go_ret
      exact ⟨⟨bb, rfl, HE.out⟩, q7⟩

set_option maxHeartbeats 8000000 in
theorem same4_tot (hN : NuS) (gs gs' : List Fn1) (hsz : ∀ g ∈ gs, szE g.body ≤ 1073741824) (hpm : ∀ g ∈ gs, g.pms.length ≤ 9223372036854775807) (hgs : gs.length ≤ 9223372036854775807) (hwx : ∀ g ∈ gs, wfN g.body) (hwy : ∀ g ∈ gs', wfN g.body) (w : World) (A A' : Nat → Prop) (ao ao' : Option Addr) (c c' : Nat) (hx : FlW w A ao gs) (hy : FlW w A' ao' gs') :
    Calls Tryd.prog 7 #[.agg #[.slice ao gs.length c], .agg #[.slice ao' gs'.length c'], .bool false] w fun e w' => TotP gs gs' e ∧ Below w.heap.size w w' := by
  have hb0 := below_two w (.cells #[.slice ao gs.length c] 26) (.cells #[.slice ao' gs'.length c'] 26)
  have hL1 := (Bk.new w 26 #[.slice ao gs.length c]).up (below_alloc _ (.cells #[.slice ao' gs'.length c'] 26))
  have hL2 := Bk.newAt (w := w.alloc (.cells #[.slice ao gs.length c] 26)) (n := w.heap.size + 1) 26 #[.slice ao' gs'.length c'] (by simp)
  have hl1 := hx.up hb0
  have hl2 := hy.up hb0
  go_enter Tryd.func7, Tryd.ntmps7
  go_upto_region 1 with fail
  obtain ⟨W2, hW2⟩ : ∃ W2, W2 = (w.alloc (.cells #[.slice ao gs.length c] 26)).alloc (.cells #[.slice ao' gs'.length c'] 26) := ⟨_, rfl⟩
  rw [← hW2] at hb0 hL1 hL2 hl1 hl2 ⊢
  clear hW2
  have a0 : W2.cell? ⟨w.heap.size, 0, none⟩ = some (.slice ao gs.length c) := hL1.cell 0
  have b0 : W2.cell? ⟨w.heap.size + 1, 0, none⟩ = some (.slice ao' gs'.length c') := hL2.cell 0
  by_cases hle : gs.length = gs'.length
  rotate_left
  · have g1 : ((gs.length : Int) != (gs'.length : Int)) = true := by simp; omega
    go_wp2
    go_ret
    exact ⟨⟨false, rfl, fun e => by cases e⟩, hb0⟩
  rw [← hle] at b0 hL2
  have HLE : Hid (gs.length = gs'.length) := hle
  clear hle
  go_wp2
  go_loopw [7] (fun v wr => ∃ k : Nat, k ≤ gs.length ∧ v = .int .i64 k ∧ Below W2.heap.size W2 wr ∧ Hid (∀ t, t < k → FnR tt (gs.getD t fd) (gs'.getD t fd))) (fun v _ => gs.length - (intOf v).toNat)
  case atStart => exact ⟨0, Nat.zero_le _, rfl, Below.refl _ _, fun t h => by omega⟩
  case round =>
    obtain ⟨k, hkn, rfl, hB, HF⟩ := hrel
    have a0 : wr.cell? ⟨w.heap.size, 0, none⟩ = some (.slice ao gs.length c) := (hL1.up hB).cell 0
    have b0 : wr.cell? ⟨w.heap.size + 1, 0, none⟩ = some (.slice ao' gs.length c') := (hL2.up hB).cell 0
    by_cases hlt : k < gs.length
    · have hlt' : k < gs'.length := by rw [← show gs.length = gs'.length from HLE]; exact hlt
      obtain ⟨b, us, rfl, _, hu, hxu⟩ := (hl1.up hB).at k hlt
      obtain ⟨b', vs, rfl, _, hv, hxv⟩ := (hl2.up hB).at k hlt'
      have hm : gs.getD k fd ∈ gs := by rw [List.getD_eq_getElem?_getD, List.getElem?_eq_getElem hlt]; exact List.getElem_mem hlt
      have hm' : gs'.getD k fd ∈ gs' := by rw [List.getD_eq_getElem?_getD, List.getElem?_eq_getElem hlt']; exact List.getElem_mem hlt'
      have hcall : ∀ W, Below wr.heap.size wr W → Calls Tryd.prog 14 #[.agg us.toArray, .agg vs.toArray, .bool false] W fun e w' => TotF (gs.getD k fd) (gs'.getD k fd) e ∧ Below W.heap.size W w' :=
        fun W hW => sameFunc_tot hN _ _ (hsz _ hm) (hpm _ hm) (hwx _ hm) (hwy _ hm') W A A' us vs (hxu.up hW) (hxv.up hW)
      obtain ⟨u0, u1, u2, u3, u4, u5, u6, u7, u8, u9, u10, rfl⟩ := list11 hxu.len
      obtain ⟨v0, v1, v2, v3, v4, v5, v6, v7, v8, v9, v10, rfl⟩ := list11 hxv.len
      obtain ⟨c0, c1, c2, c3, c4, c5, c6, c7, c8, c9, c10⟩ := range11 hu
      obtain ⟨d0, d1, d2, d3, d4, d5, d6, d7, d8, d9, d10⟩ := range11 hv
      clear hu hv hxu hxv
      go_wp2
      go_region_with (go_at_call 14; refine (hcall _ (Below.refl _ wr).drew).mono ?_; rintro e w7 ⟨⟨bb, rfl, hbb⟩, hb7⟩; have q7 := Below.thn hB (Below.thn (Below.refl _ wr).drew hb7); have HBB : Hid (bb = true → FnR tt (gs.getD k fd) (gs'.getD k fd)) := hbb; clear hbb)
      all_goals
        cases bb
        · have hB3 := Below.thn hb0 q7
          go_wp2
          go_ret
          exact ⟨⟨false, rfl, fun e => by cases e⟩, hB3⟩
        · go_wp2
          go_roundw
          case rel =>
            refine ⟨k + 1, by omega, by go_num, q7, fun t ht => ?_⟩
            by_cases e : t = k
            · subst e; exact HBB.out rfl
            · exact HF.out t (by omega)
          case measure => simp [intOf]; omega
    · have hke : k = gs.length := by omega
      subst hke
      have hB3 := Below.thn hb0 hB
      go_wp2
      go_ret
      exact ⟨⟨true, rfl, fun _ => lir_of fd gs gs' HLE.out HF.out⟩, hB3⟩
end Go.Proofs.YtndgglhppoijnaaDoor
