/-
  The walks of the document's Same and Whole.
-/
import Derived.Test.YtebpjcjoapahnaaVf
namespace Go.Proofs.Ytebpjcjoapahnaa
open Go.RowKit
open Go.Lib
set_option maxRecDepth 100000

theorem sameV_fields {v u : Rv} (hv : soundV v = true) (hu : soundV u = true) : sameV v u = (decide (v.t = u.t) && feW v.z u.z && (v.r == u.r) && eqZ v.zs u.zs) := by
  obtain ⟨vz, va⟩ := sound_vc hv
  obtain ⟨uz, ua⟩ := sound_vc hu
  unfold sameV
  rw [hv, hu, feW_vc vz uz, eqZ_eq va ua]
  obtain ⟨t1, z1, r1, l1⟩ := v
  obtain ⟨t2, z2, r2, l2⟩ := u
  simp only [Bool.true_and, Rv.mk.injEq]
  rw [Bool.eq_iff_iff]
  simp [and_assoc]

set_option maxHeartbeats 1000000 in
theorem rsame_any (v u : Rv) (a1 a2 : Option Addr) (c1 c2 : Nat) (w : World) (h1 : Vr w a1 v) (h2 : Vr w a2 u) :
    Calls Try.prog 19 #[vV a1 c1 v, vV a2 c2 u] w fun e w' => e = .returned (.bool (sameV v u)) ∧ Below w.heap.size w w' := by
  have k1 := (h1.alloc (vObj a1 c1 v)).alloc (vObj a2 c2 u)
  have k2 := (h2.alloc (vObj a1 c1 v)).alloc (vObj a2 c2 u)
  have b0 := Below.thn (below_alloc w (vObj a1 c1 v)) (below_alloc _ (vObj a2 c2 u))
  have m1 := (V4.new w a1 c1 v).up (below_alloc _ (vObj a2 c2 u))
  have m2 := V4.new (w.alloc (vObj a1 c1 v)) a2 c2 u
  have hsz : (w.alloc (vObj a1 c1 v)).heap.size = w.heap.size + 1 := by simp
  rw [hsz] at m2
  have s1 := rvalid_any v a1 c1 _ k1
  obtain ⟨N, hN⟩ : ∃ N, Hid (N = sameV v u) := ⟨_, rfl⟩
  rw [← hN.out]
  unfold vV vObj at *
  clear hsz
  cases hv : soundV v with
  | false =>
    rw [hv] at s1
    have : N = false := by rw [hN.out]; unfold sameV; rw [hv]; rfl
    subst this
    clear h1 h2 k1 k2
    go_enter Try.func19, Try.ntmps19
    go_wp2_with fail
    refine s1.mono ?_
    rintro e w1 ⟨rfl, hb1⟩
    go_wp2
    go_ret
    exact ⟨rfl, Below.thn b0 hb1⟩
  | true =>
    rw [hv] at s1
    go_enter Try.func19, Try.ntmps19
    go_wp2_with fail
    refine s1.mono ?_
    rintro e w1 ⟨rfl, hb1⟩
    replace m1 := m1.up hb1
    replace m2 := m2.up hb1
    replace k1 := k1.up hb1
    replace k2 := k2.up hb1
    replace b0 := Below.thn b0 hb1
    have s2 := rvalid_any u a2 c2 _ k2
    unfold vV at s2
    clear s1 h1 h2 hb1
    obtain ⟨q1, q2, q3, q4⟩ := m2
    simp only [Nat.zero_add] at q2 q3 q4
    cases hu : soundV u with
    | false =>
      rw [hu] at s2
      have : N = false := by rw [hN.out]; unfold sameV; rw [hu, Bool.and_false]; rfl
      subst this
      clear k1 k2 m1
      go_wp2_with fail
      refine s2.mono ?_
      rintro e w2 ⟨rfl, hb2⟩
      go_wp2
      go_ret
      exact ⟨rfl, Below.thn b0 hb2⟩
    | true =>
      rw [hu] at s2
      have key := sameV_fields hv hu
      rw [← hN.out] at key
      have KEY : Hid (N = (decide (v.t = u.t) && feW v.z u.z && (v.r == u.r) && eqZ v.zs u.zs)) := key
      clear key hN hv hu
      go_wp2_with fail
      refine s2.mono ?_
      rintro e w2 ⟨rfl, hb2⟩
      replace m1 := m1.up hb2
      have m2 := (show V4 w1 (w.heap.size + 1) 0 a2 c2 u from ⟨q1, q2, q3, q4⟩).up hb2
      clear q1 q2 q3 q4
      have p := m1
      have q := m2
      obtain ⟨p1, p2, p3, p4⟩ := p
      obtain ⟨q1, q2, q3, q4⟩ := q
      replace k1 := k1.up hb2
      replace k2 := k2.up hb2
      replace b0 := Below.thn b0 hb2
      clear s2 hb2
      simp only [Nat.zero_add] at *
      have HH : Hid (V4 w2 w.heap.size 0 a1 c1 v ∧ V4 w2 (w.heap.size + 1) 0 a2 c2 u) := ⟨m1, m2⟩
      have H1 : Hid (Vr w2 a1 v) := k1
      have H2 : Hid (Vr w2 a2 u) := k2
      clear m1 m2 k1 k2
      obtain ⟨t1, ⟨x1, y1⟩, r1, zs1⟩ := v
      obtain ⟨t2, ⟨x2, y2⟩, r2, zs2⟩ := u
      by_cases ht : t1 = t2
      · subst ht
        cases ho1 : (FloatKind.f64.format.order x1 x2 == some Ordering.eq) with
        | true =>
          cases ho2 : (FloatKind.f64.format.order y1 y2 == some Ordering.eq) with
          | true =>
            by_cases hr : r1 = r2
            · subst hr
              by_cases hl : zs1.length = zs2.length
              · obtain ⟨n, hn⟩ : ∃ n, n = zs1.length := ⟨_, rfl⟩
                have hn2 : n = zs2.length := hn.trans hl
                simp only at p1 p2 p3 p4 q1 q2 q3 q4
                rw [← hn] at p4
                rw [← hn2] at q4
                have KN : Hid (N = eqZ zs1 zs2) := by
                  show _ = _
                  rw [KEY.out, show feW (x1, y1) (x2, y2) = true by unfold feW Op.floatEq; rw [ho1, ho2]; rfl]
                  simp
                have hnl : n ≤ 5864062014806 := by rw [hn]; exact H1.out.n
                have Hl : Hid (n = zs1.length ∧ n = zs2.length) := ⟨hn, hn2⟩
                clear KEY hl hn hn2
                go_wp2_with fail
                go_loopw [5] (fun i wr => ∃ k : Nat, k ≤ n ∧ i = .int .i64 k ∧ Below w2.heap.size w2 wr ∧ Hid (∀ j, j < k → feW (zs1.getD j (0, 0)) (zs2.getD j (0, 0)) = true)) (fun i _ => n - (intOf i).toNat)
                case atStart => exact ⟨0, Nat.zero_le _, rfl, Below.refl _ _, fun j hj => absurd hj (Nat.not_lt_zero _)⟩
                case round =>
                  obtain ⟨k, hkn, rfl, hB, ha⟩ := hrel
                  clear p1 p2 p3 p4 q1 q2 q3 q4
                  obtain ⟨p1, p2, p3, p4⟩ := HH.out.1.up hB
                  obtain ⟨q1, q2, q3, q4⟩ := HH.out.2.up hB
                  simp only [Nat.zero_add] at p1 p2 p3 p4 q1 q2 q3 q4
                  rw [← Hl.out.1] at p4
                  rw [← Hl.out.2] at q4
                  by_cases hlt : k < n
                  · have hk1 : k < zs1.length := by rw [← Hl.out.1]; exact hlt
                    have hk2 : k < zs2.length := by rw [← Hl.out.2]; exact hlt
                    obtain ⟨b1, o1, rfl, e1⟩ := (H1.out.l.up hB).pl (by intro e; rw [show zs1 = [] from e] at hk1; simp at hk1)
                    obtain ⟨b2, o2, rfl, e2⟩ := (H2.out.l.up hB).pl (by intro e; rw [show zs2 = [] from e] at hk2; simp at hk2)
                    have d1 := e1 k hk1
                    have d2 := e2 k hk2
                    have hF := eqZ_no hk1 hk2
                    have HA : Hid (feW (zs1.getD k (0, 0)) (zs2.getD k (0, 0)) = true → ∀ j, j < k + 1 → feW (zs1.getD j (0, 0)) (zs2.getD j (0, 0)) = true) := by
                      intro h j hj
                      rcases Nat.lt_or_ge j k with g | g
                      · exact ha.out j g
                      · have : j = k := by omega
                        rw [this]; exact h
                    simp only at d1 d2
                    obtain ⟨x, hx⟩ : ∃ x, x = zs1.getD k (0, 0) := ⟨_, rfl⟩
                    obtain ⟨y, hy⟩ : ∃ y, y = zs2.getD k (0, 0) := ⟨_, rfl⟩
                    rw [← hx, ← hy] at HA hF
                    rw [← hx] at d1
                    rw [← hy] at d2
                    clear e1 e2 hx hy ha hk1 hk2 H1 H2 HH
                    obtain ⟨xa, xb⟩ := x
                    obtain ⟨ya, yb⟩ := y
                    cases ho3 : (FloatKind.f64.format.order xa ya == some Ordering.eq) with
                    | true =>
                      cases ho4 : (FloatKind.f64.format.order xb yb == some Ordering.eq) with
                      | true =>
                        have HB := HA.out (show (_ && _) = true by rw [show Op.floatEq .f64 xa ya = true from ho3, show Op.floatEq .f64 xb yb = true from ho4]; rfl)
                        have HC : Hid (∀ j, j < k + 1 → feW (zs1.getD j (0, 0)) (zs2.getD j (0, 0)) = true) := HB
                        clear HA HB hF
                        go_wp2
                        go_region
                        all_goals
                          go_wp2
                          go_roundw
                          case rel => exact ⟨k + 1, by omega, by go_num, hB.drew, HC⟩
                          case measure => simp [intOf]; omega
                      | false =>
                        have HB := hF (show (_ && _) = false by rw [show Op.floatEq .f64 xb yb = false from ho4, Bool.and_false])
                        rw [← KN.out] at HB
                        subst HB
                        clear HA hF
                        go_wp2
                        go_region
                        all_goals
                          go_wp2
                          go_ret
                          exact ⟨rfl, Below.thn b0 hB.drew⟩
                    | false =>
                      have HB := hF (show (_ && _) = false by rw [show Op.floatEq .f64 xa ya = false from ho3, Bool.false_and])
                      rw [← KN.out] at HB
                      subst HB
                      clear HA hF
                      go_wp2
                      go_region
                      all_goals
                        go_wp2
                        go_ret
                        exact ⟨rfl, Below.thn b0 hB.drew⟩
                  · have hke : k = n := by omega
                    have hA : eqZ zs1 zs2 = true := eqZ_yes (Hl.out.1.symm.trans Hl.out.2) (fun j hj => ha.out j (by rw [hke, Hl.out.1]; exact hj))
                    rw [← KN.out] at hA
                    subst hA
                    subst hke
                    go_wp2
                    go_ret
                    exact ⟨rfl, Below.thn b0 hB⟩
              · have hne : ((zs1.length : Int) == (zs2.length : Int)) = false := by rw [beq_eq_false_iff_ne]; omega
                have HN : N = false := by
                  rw [KEY.out, show eqZ zs1 zs2 = false by unfold eqZ; rw [decide_eq_false hl]; rfl, Bool.and_false]
                subst HN
                clear KEY H1 H2 HH hl
                go_wp2
                go_ret
                exact ⟨rfl, b0⟩
            · have hr' : (r1 == r2) = false := by simpa using hr
              have HN : N = false := by rw [KEY.out, hr']; simp
              subst HN
              clear KEY H1 H2 HH hr
              go_wp2
              all_goals
                go_ret
                exact ⟨rfl, b0⟩
          | false =>
            have HN : N = false := by rw [KEY.out, show feW (x1, y1) (x2, y2) = false by unfold feW Op.floatEq; rw [ho2, Bool.and_false]]; simp
            subst HN
            clear KEY H1 H2 HH
            go_wp2
            all_goals
              go_ret
              exact ⟨rfl, b0⟩
        | false =>
          have HN : N = false := by rw [KEY.out, show feW (x1, y1) (x2, y2) = false by unfold feW Op.floatEq; rw [ho1, Bool.false_and]]; simp
          subst HN
          clear KEY H1 H2 HH
          go_wp2
          all_goals
            go_ret
            exact ⟨rfl, b0⟩
      · have ht' : (t1 == t2) = false := by simpa using ht
        have HN : N = false := by rw [KEY.out, decide_eq_false ht]; simp
        subst HN
        clear KEY H1 H2 HH
        go_wp2
        all_goals
          go_ret
          exact ⟨rfl, b0⟩

/-- Nothing: all fields zero. -/
def rv0 : Rv := ⟨0, (0, 0), false, []⟩

set_option maxHeartbeats 1000000 in
theorem wholeV_yes (v : Rv) (a1 a2 : Option Addr) (c1 c2 : Nat) (w : World) (h1 : Vr w a1 v) (h2 : Vr w a2 v) (hs : soundV v = true) :
    Calls Try.prog 14 #[vV a1 c1 v, vV a2 c2 v] w fun e w' => e = .returned (.bool true) ∧ Below w.heap.size w w' := by
  have k1 := (h1.alloc (vObj a1 c1 v)).alloc (vObj a2 c2 v)
  have k2 := (h2.alloc (vObj a1 c1 v)).alloc (vObj a2 c2 v)
  have b0 := Below.thn (below_alloc w (vObj a1 c1 v)) (below_alloc _ (vObj a2 c2 v))
  have s1 := rsame_any v v a1 a2 c1 c2 _ k1 k2
  have e : sameV v v = true := by unfold sameV; rw [hs]; simp
  rw [e] at s1
  have ht : (v.t == 0) = false := by
    rw [beq_eq_false_iff_ne]
    intro e0
    unfold soundV at hs
    rw [e0] at hs
    simp at hs
  unfold vV vObj at *
  clear h1 h2 k1 k2 e hs
  go_enter Try.func14, Try.ntmps14
  go_wp2_with fail
  refine s1.mono ?_
  rintro e w1 ⟨rfl, hb1⟩
  go_wp2
  go_ret
  exact ⟨rfl, Below.thn b0 hb1⟩

set_option maxHeartbeats 1000000 in
theorem wholeV_zero (a1 a2 : Option Addr) (c1 c2 : Nat) (w : World) :
    Calls Try.prog 14 #[vV a1 c1 rv0, vV a2 c2 rv0] w fun e w' => e = .returned (.bool true) ∧ Below w.heap.size w w' := by
  have b0 := Below.thn (below_alloc w (vObj a1 c1 rv0)) (below_alloc _ (vObj a2 c2 rv0))
  unfold vV vObj rv0 at *
  have ho : (FloatKind.f64.format.order 0 0 == some Ordering.eq) = true := by kernel_rfl
  go_enter Try.func14, Try.ntmps14
  go_wp2
  go_ret
  exact ⟨rfl, b0⟩
end Go.Proofs.Ytebpjcjoapahnaa
