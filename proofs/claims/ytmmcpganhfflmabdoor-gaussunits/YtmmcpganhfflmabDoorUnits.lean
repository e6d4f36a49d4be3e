/-
  The walk of GaussUnits.
-/
import Derived.Test.YtmmcpganhfflmabDoorWc
import Derived.Test.YtmmcpganhfflmabDoorUn
namespace Go.Proofs.YtmmcpganhfflmabDoor
open Go.RowKit
open Ieee

set_option maxRecDepth 100000 in
set_option maxHeartbeats 1000000 in
theorem units_any (x y : Int) (r : Bool) (w : World) :
    Calls Tryd.prog 4 #[.agg #[.int .i64 x, .int .i64 y, .bool r]] w fun e w' => e = .returned (.bool true) ∧ Below w.heap.size w w' := by
  have l1 := zb_lt r x
  have l2 := zb_lt r y
  go_enter Tryd.func4, Tryd.ntmps4
  go_wp2_with (go_at_call 5; refine (awake_any _).mono ?_; rintro e w' ⟨rfl, rfl⟩)
  refine (z_any _ _ _ _).mono ?_
  rintro e w' ⟨rfl, n1, rfl⟩
  have hB : Below w.heap.size w (((w.alloc (.cells #[.int .i64 x, .int .i64 y, .bool r] 23)).alloc (.cells #[.int .i64 x, .int .i64 y, .bool r] 23)).drewN n1) := by
    refine below_drewN (Below.alloc (Below.alloc (Below.refl _ _) (Nat.le_refl _) _) ?_ _) _
    simp
  generalize ((w.alloc (Obj.cells #[.int .i64 x, .int .i64 y, .bool r] 23)).alloc (.cells #[.int .i64 x, .int .i64 y, .bool r] 23)).drewN n1 = W at hB ⊢
  generalize zb r x = a at *
  generalize zb r y = b at *
  clear n1
  by_cases hv : vc a b = true
  · have hva : vp a = true ∧ vp b = true := by unfold vc at hv; simpa using hv
    obtain ⟨⟨bp, ea⟩, ⟨bq, eb⟩⟩ := And.intro (vp_true hva.1) (vp_true hva.2)
    generalize nb a = p at *
    generalize nb b = q at *
    subst ea eb
    clear hva
    go_wp2_with (go_at_call 10; refine (valid_vc _ _ _ (by assumption) (by assumption)).mono ?_; rintro e w' ⟨rfl, rfl⟩)
    have hBV : Below w.heap.size w (w'.alloc (.cells #[.complex .f64 4607182418800017408 0, .complex .f64 13830554455654793216 0, .complex .f64 0 4607182418800017408, .complex .f64 0 13830554455654793216] 25)) := hB.alloc hB.size _
    have hc0 : (w'.alloc (.cells #[.complex .f64 4607182418800017408 0, .complex .f64 13830554455654793216 0, .complex .f64 0 4607182418800017408, .complex .f64 0 13830554455654793216] 25)).cell? ⟨w'.heap.size, 0, none⟩ = some (.complex .f64 4607182418800017408 0) := by go_simp
    have hc1 : (w'.alloc (.cells #[.complex .f64 4607182418800017408 0, .complex .f64 13830554455654793216 0, .complex .f64 0 4607182418800017408, .complex .f64 0 13830554455654793216] 25)).cell? ⟨w'.heap.size, 1, none⟩ = some (.complex .f64 13830554455654793216 0) := by go_simp
    have hc2 : (w'.alloc (.cells #[.complex .f64 4607182418800017408 0, .complex .f64 13830554455654793216 0, .complex .f64 0 4607182418800017408, .complex .f64 0 13830554455654793216] 25)).cell? ⟨w'.heap.size, 2, none⟩ = some (.complex .f64 0 4607182418800017408) := by go_simp
    have hc3 : (w'.alloc (.cells #[.complex .f64 4607182418800017408 0, .complex .f64 13830554455654793216 0, .complex .f64 0 4607182418800017408, .complex .f64 0 13830554455654793216] 25)).cell? ⟨w'.heap.size, 3, none⟩ = some (.complex .f64 0 13830554455654793216) := by go_simp
    generalize w'.alloc (.cells #[.complex .f64 4607182418800017408 0, .complex .f64 13830554455654793216 0, .complex .f64 0 4607182418800017408, .complex .f64 0 13830554455654793216] 25) = V at *
    generalize w'.heap.size = blk at *
    clear hB
    have sr := same_refl
    go_loopw [36] (fun i wr => ∃ (k : Int) (n : Nat), 0 ≤ k ∧ k ≤ 4 ∧ i = .int .i64 k ∧ wr = V.drewN n) (fun i _ => 4 - (intOf i).toNat)
    case atStart => exact ⟨0, 0, by omega, by omega, rfl, rfl⟩
    case round =>
      obtain ⟨k, n, hk0, hk, rfl, rfl⟩ := hrel
      have h5 : k = 0 ∨ k = 1 ∨ k = 2 ∨ k = 3 ∨ k = 4 := by omega
      rcases h5 with rfl | rfl | rfl | rfl | rfl
      · go_wp2
        go_loopw [8, 9] (fun qv i wr => ∃ j m : Nat, j ≤ 4 ∧ i = .int .i64 j ∧ qv = .complex .f64 (fl (itX (1) (0) j p q)) (fl (itY (1) (0) j p q)) ∧ wr = V.drewN m) (fun _ i _ => 4 - (intOf i).toNat)
        case atStart => exact ⟨0, n, by omega, rfl, rfl, rfl⟩
        case round =>
          obtain ⟨j, m, hj, rfl, rfl, rfl⟩ := hrel
          by_cases hlt : j < 4
          · have bd := it_bound (u := 1) (v := 0) (by decide) bp bq j
            have H : Hid (itX (1) (0) (j + 1) p q = stX (1) (0) (itX (1) (0) j p q) (itY (1) (0) j p q) ∧ itY (1) (0) (j + 1) p q = stY (1) (0) (itX (1) (0) j p q) (itY (1) (0) j p q)) := it_succ (1) (0) j p q
            go_wp2_with fail
            refine (unit_quo _ _ (1) (0) _ _ (by decide) (by decide) (by decide) bd.1 bd.2 _).mono ?_
            rintro e w2 ⟨rfl, n2, rfl⟩
            go_wp2_with fail
            refine (unit_mul _ _ (1) (0) _ _ (by decide) (by decide) (by decide) bd.1 bd.2 _).mono ?_
            rintro e w2 ⟨rfl, rfl⟩
            go_wp2_with (go_at_call 8; refine (bits_any _ _ _ _ _).mono ?_; rintro _ w2 ⟨rfl, rfl⟩)
            go_roundw
            case rel => exact ⟨j + 1, m + n2, by omega, by go_num, by rw [H.out.1, H.out.2], rfl⟩
            case measure => simp [intOf]; omega
          · have h4 : j = 4 := by omega
            subst h4
            obtain ⟨e1, e2⟩ := it_four (u := 1) (v := 0) (p := p) (q := q) (by decide)
            go_wp2_with (go_at_call 8; refine (bits_any _ _ _ _ _).mono ?_; rintro _ w2 ⟨rfl, rfl⟩)
            go_roundw
            case rel => exact ⟨1, m, by omega, by omega, rfl, rfl⟩
            case measure => simp [intOf]
      · go_wp2
        go_loopw [8, 9] (fun qv i wr => ∃ j m : Nat, j ≤ 4 ∧ i = .int .i64 j ∧ qv = .complex .f64 (fl (itX (-1) (0) j p q)) (fl (itY (-1) (0) j p q)) ∧ wr = V.drewN m) (fun _ i _ => 4 - (intOf i).toNat)
        case atStart => exact ⟨0, n, by omega, rfl, rfl, rfl⟩
        case round =>
          obtain ⟨j, m, hj, rfl, rfl, rfl⟩ := hrel
          by_cases hlt : j < 4
          · have bd := it_bound (u := -1) (v := 0) (by decide) bp bq j
            have H : Hid (itX (-1) (0) (j + 1) p q = stX (-1) (0) (itX (-1) (0) j p q) (itY (-1) (0) j p q) ∧ itY (-1) (0) (j + 1) p q = stY (-1) (0) (itX (-1) (0) j p q) (itY (-1) (0) j p q)) := it_succ (-1) (0) j p q
            go_wp2_with fail
            refine (unit_quo _ _ (-1) (0) _ _ (by decide) (by decide) (by decide) bd.1 bd.2 _).mono ?_
            rintro e w2 ⟨rfl, n2, rfl⟩
            go_wp2_with fail
            refine (unit_mul _ _ (-1) (0) _ _ (by decide) (by decide) (by decide) bd.1 bd.2 _).mono ?_
            rintro e w2 ⟨rfl, rfl⟩
            go_wp2_with (go_at_call 8; refine (bits_any _ _ _ _ _).mono ?_; rintro _ w2 ⟨rfl, rfl⟩)
            go_roundw
            case rel => exact ⟨j + 1, m + n2, by omega, by go_num, by rw [H.out.1, H.out.2], rfl⟩
            case measure => simp [intOf]; omega
          · have h4 : j = 4 := by omega
            subst h4
            obtain ⟨e1, e2⟩ := it_four (u := -1) (v := 0) (p := p) (q := q) (by decide)
            go_wp2_with (go_at_call 8; refine (bits_any _ _ _ _ _).mono ?_; rintro _ w2 ⟨rfl, rfl⟩)
            go_roundw
            case rel => exact ⟨2, m, by omega, by omega, rfl, rfl⟩
            case measure => simp [intOf]
      · go_wp2
        go_loopw [8, 9] (fun qv i wr => ∃ j m : Nat, j ≤ 4 ∧ i = .int .i64 j ∧ qv = .complex .f64 (fl (itX (0) (1) j p q)) (fl (itY (0) (1) j p q)) ∧ wr = V.drewN m) (fun _ i _ => 4 - (intOf i).toNat)
        case atStart => exact ⟨0, n, by omega, rfl, rfl, rfl⟩
        case round =>
          obtain ⟨j, m, hj, rfl, rfl, rfl⟩ := hrel
          by_cases hlt : j < 4
          · have bd := it_bound (u := 0) (v := 1) (by decide) bp bq j
            have H : Hid (itX (0) (1) (j + 1) p q = stX (0) (1) (itX (0) (1) j p q) (itY (0) (1) j p q) ∧ itY (0) (1) (j + 1) p q = stY (0) (1) (itX (0) (1) j p q) (itY (0) (1) j p q)) := it_succ (0) (1) j p q
            go_wp2_with fail
            refine (unit_quo _ _ (0) (1) _ _ (by decide) (by decide) (by decide) bd.1 bd.2 _).mono ?_
            rintro e w2 ⟨rfl, n2, rfl⟩
            go_wp2_with fail
            refine (unit_mul _ _ (0) (1) _ _ (by decide) (by decide) (by decide) bd.1 bd.2 _).mono ?_
            rintro e w2 ⟨rfl, rfl⟩
            go_wp2_with (go_at_call 8; refine (bits_any _ _ _ _ _).mono ?_; rintro _ w2 ⟨rfl, rfl⟩)
            go_roundw
            case rel => exact ⟨j + 1, m + n2, by omega, by go_num, by rw [H.out.1, H.out.2], rfl⟩
            case measure => simp [intOf]; omega
          · have h4 : j = 4 := by omega
            subst h4
            obtain ⟨e1, e2⟩ := it_four (u := 0) (v := 1) (p := p) (q := q) (by decide)
            go_wp2_with (go_at_call 8; refine (bits_any _ _ _ _ _).mono ?_; rintro _ w2 ⟨rfl, rfl⟩)
            go_roundw
            case rel => exact ⟨3, m, by omega, by omega, rfl, rfl⟩
            case measure => simp [intOf]
      · go_wp2
        go_loopw [8, 9] (fun qv i wr => ∃ j m : Nat, j ≤ 4 ∧ i = .int .i64 j ∧ qv = .complex .f64 (fl (itX (0) (-1) j p q)) (fl (itY (0) (-1) j p q)) ∧ wr = V.drewN m) (fun _ i _ => 4 - (intOf i).toNat)
        case atStart => exact ⟨0, n, by omega, rfl, rfl, rfl⟩
        case round =>
          obtain ⟨j, m, hj, rfl, rfl, rfl⟩ := hrel
          by_cases hlt : j < 4
          · have bd := it_bound (u := 0) (v := -1) (by decide) bp bq j
            have H : Hid (itX (0) (-1) (j + 1) p q = stX (0) (-1) (itX (0) (-1) j p q) (itY (0) (-1) j p q) ∧ itY (0) (-1) (j + 1) p q = stY (0) (-1) (itX (0) (-1) j p q) (itY (0) (-1) j p q)) := it_succ (0) (-1) j p q
            go_wp2_with fail
            refine (unit_quo _ _ (0) (-1) _ _ (by decide) (by decide) (by decide) bd.1 bd.2 _).mono ?_
            rintro e w2 ⟨rfl, n2, rfl⟩
            go_wp2_with fail
            refine (unit_mul _ _ (0) (-1) _ _ (by decide) (by decide) (by decide) bd.1 bd.2 _).mono ?_
            rintro e w2 ⟨rfl, rfl⟩
            go_wp2_with (go_at_call 8; refine (bits_any _ _ _ _ _).mono ?_; rintro _ w2 ⟨rfl, rfl⟩)
            go_roundw
            case rel => exact ⟨j + 1, m + n2, by omega, by go_num, by rw [H.out.1, H.out.2], rfl⟩
            case measure => simp [intOf]; omega
          · have h4 : j = 4 := by omega
            subst h4
            obtain ⟨e1, e2⟩ := it_four (u := 0) (v := -1) (p := p) (q := q) (by decide)
            go_wp2_with (go_at_call 8; refine (bits_any _ _ _ _ _).mono ?_; rintro _ w2 ⟨rfl, rfl⟩)
            go_roundw
            case rel => exact ⟨4, m, by omega, by omega, rfl, rfl⟩
            case measure => simp [intOf]
      · go_wp2_with fail
        refine (quo_by_zero p q bp bq _).mono ?_
        rintro e w2 ⟨rfl, rfl⟩
        have o1 := order_zero_rep (rep_fl p (by omega))
        have o2 := order_zero_rep (rep_fl q (by omega))
        by_cases h0 : p = 0 ∧ q = 0
        · have oc : ((FloatKind.f64.format.order (fl p) 0 == some .eq) && (FloatKind.f64.format.order (fl q) 0 == some .eq)) = true := by
            rw [o1, o2, ← Bool.decide_and]; exact decide_eq_true h0
          clear o1 o2 h0
          go_wp2_with fail
          go_ret
          exact ⟨rfl, below_drewN hBV _⟩
        · have oc : ((FloatKind.f64.format.order (fl p) 0 == some .eq) && (FloatKind.f64.format.order (fl q) 0 == some .eq)) = false := by
            rw [o1, o2, ← Bool.decide_and]; exact decide_eq_false h0
          clear o1 o2
          go_wp2_with fail
          refine (quo_self p q bp bq h0 _).mono ?_
          rintro e w2 ⟨rfl, n3, rfl⟩
          go_wp2_with fail
          refine (quo_of_zero p q bp bq h0 _).mono ?_
          rintro e w2 ⟨rfl, n4, rfl⟩
          go_wp2_with (go_at_call 8; refine (bits_any _ _ _ _ _).mono ?_; rintro _ w2 ⟨rfl, rfl⟩)
          go_ret
          exact ⟨rfl, below_drewN hBV _⟩
  · have hv' : vc a b = false := by simpa using hv
    clear hv
    go_wp2_with (go_at_call 10; refine (valid_vc _ _ _ (by assumption) (by assumption)).mono ?_; rintro e w' ⟨rfl, rfl⟩)
    refine (quo_shapeless _ _ _ l1 l2 hv' _ _ (by decide) (by decide)).mono ?_
    rintro e w' ⟨rfl, rfl⟩
    go_wp2
    go_ret
    exact ⟨rfl, hB⟩
end Go.Proofs.YtmmcpganhfflmabDoor
