/-
  What Apply answers, plainly; its walk.
-/
import Derived.Test.YtebpjcjoapahnaaPc
import Derived.Deep.RegionHeld3
import Derived.Deep.DeepCutAuto
namespace Go.Proofs.Ytebpjcjoapahnaa
open Go.RowKit
set_option maxRecDepth 100000

def zAt (vs : List Rv) (k : Nat) : Wz := (vs.getD k rv0).z
/-- What Apply answers. -/
def apV (op : Int) (vs : List Rv) : Rv :=
  if fitB op vs then
    (if op = 14 then rb (!(vs.getD 0 rv0).r) else if op = 12 then rb (feW (zAt vs 0) (zAt vs 1))
     else if op = 13 then rb (ltW (zAt vs 0).1 (zAt vs 0).2 (zAt vs 1).1 (zAt vs 1).2)
     else if 15 ≤ op then rn (oneW op (zAt vs 0)) else nuR (twoW op (zAt vs 0) (zAt vs 1)) (twoE op (zAt vs 0) (zAt vs 1)))
  else rv0
def apE (op : Int) (vs : List Rv) : Int :=
  if fitB op vs then (if 8 ≤ op ∧ op ≤ 11 then twoE op (zAt vs 0) (zAt vs 1) else 0) else 3

theorem one_n {v : Rv} (h : oneB 1 v = true) : ∃ z, v = rn z ∧ vc z.1 z.2 = true := by
  unfold oneB at h
  simp only [Bool.and_eq_true, decide_eq_true_eq] at h
  obtain ⟨t, z, r, zs⟩ := v
  simp only at h
  obtain ⟨rfl, h2⟩ := h
  simp only [soundV, if_true, Bool.and_eq_true, Bool.not_eq_true', List.isEmpty_iff] at h2
  exact ⟨z, by rw [h2.1.2, h2.2]; rfl, h2.1.1⟩
theorem one_b {v : Rv} (h : oneB 2 v = true) : ∃ b, v = rb b := by
  unfold oneB at h
  simp only [Bool.and_eq_true, decide_eq_true_eq] at h
  obtain ⟨u, _, e⟩ := sound_is h.2
  cases u with
  | n z => rw [e] at h; simp [ofV] at h
  | b r => exact ⟨r, e⟩
  | l zs => rw [e] at h; simp [ofV] at h

theorem fit_cases {op : Int} {vs : List Rv} (h : fitB op vs = true) :
    ((8 ≤ op ∧ op ≤ 13) ∧ ∃ a b, vs = [rn a, rn b] ∧ vc a.1 a.2 = true ∧ vc b.1 b.2 = true) ∨ (op = 14 ∧ ∃ b, vs = [rb b]) ∨ ((15 ≤ op ∧ op ≤ 17) ∧ ∃ a, vs = [rn a] ∧ vc a.1 a.2 = true) := by
  unfold fitB at h
  simp only [Bool.and_eq_true, decide_eq_true_eq] at h
  obtain ⟨⟨h0, h1⟩, h2⟩ := h
  by_cases c1 : 8 ≤ op ∧ op ≤ 13
  · left
    have e1 : tkN op = 2 := by unfold tkN; rw [if_pos c1]
    have e2 : tkT op = 1 := by unfold tkT; rw [if_neg (by omega), if_pos (by omega)]
    rw [e1] at h1
    rw [e2] at h2
    refine ⟨c1, ?_⟩
    match vs, h1, h2 with
    | [x, y], _, h2 =>
      simp only [List.all_cons, List.all_nil, Bool.and_true, Bool.and_eq_true] at h2
      obtain ⟨a, rfl, ha⟩ := one_n h2.1
      obtain ⟨b, rfl, hb⟩ := one_n h2.2
      exact ⟨a, b, rfl, ha, hb⟩
    | [], h1, _ => simp at h1
    | [x], h1, _ => simp at h1
    | x :: y :: z :: r, h1, _ => simp only [List.length_cons] at h1; omega
  · by_cases c2 : 14 ≤ op ∧ op ≤ 17
    · have e1 : tkN op = 1 := by unfold tkN; rw [if_neg c1, if_pos c2]
      rw [e1] at h1
      match vs, h1, h2 with
      | [x], _, h2 =>
        simp only [List.all_cons, List.all_nil, Bool.and_true] at h2
        by_cases c3 : op = 14
        · have e2 : tkT op = 2 := by unfold tkT; rw [if_pos c3]
          rw [e2] at h2
          obtain ⟨b, rfl⟩ := one_b h2
          exact .inr (.inl ⟨c3, b, rfl⟩)
        · have e2 : tkT op = 1 := by unfold tkT; rw [if_neg c3, if_pos (by omega)]
          rw [e2] at h2
          obtain ⟨a, rfl, ha⟩ := one_n h2
          exact .inr (.inr ⟨by omega, a, rfl, ha⟩)
      | [], h1, _ => simp at h1
      | x :: y :: r, h1, _ => simp only [List.length_cons] at h1; omega
    · exfalso
      unfold tkN at h0
      rw [if_neg c1, if_neg c2] at h0
      exact h0 rfl

theorem ap_bad {op : Int} {vs : List Rv} (h : fitB op vs = false) : apV op vs = rv0 ∧ apE op vs = 3 := by
  unfold apV apE; rw [h]; exact ⟨rfl, rfl⟩
theorem ap_not {b : Bool} (h : fitB 14 [rb b] = true) : apV 14 [rb b] = rb (!b) ∧ apE 14 [rb b] = 0 := by
  unfold apV apE; rw [h]; exact ⟨rfl, rfl⟩
theorem ap_eq {a b : Wz} (h : fitB 12 [rn a, rn b] = true) : apV 12 [rn a, rn b] = rb (feW a b) ∧ apE 12 [rn a, rn b] = 0 := by
  unfold apV apE; rw [h]; exact ⟨rfl, rfl⟩
theorem ap_less {a b : Wz} (h : fitB 13 [rn a, rn b] = true) : apV 13 [rn a, rn b] = rb (ltW a.1 a.2 b.1 b.2) ∧ apE 13 [rn a, rn b] = 0 := by
  unfold apV apE; rw [h]; exact ⟨rfl, rfl⟩
theorem ap_one {op : Int} {a : Wz} (h : fitB op [rn a] = true) (ho : 15 ≤ op ∧ op ≤ 17) : apV op [rn a] = rn (oneW op a) ∧ apE op [rn a] = 0 := by
  unfold apV apE
  rw [h, if_pos rfl, if_pos rfl, if_neg (by omega), if_neg (by omega), if_neg (by omega), if_pos (by omega), if_neg (by omega)]
  exact ⟨rfl, rfl⟩
theorem ap_two {op : Int} {a b : Wz} (h : fitB op [rn a, rn b] = true) (ho : 8 ≤ op ∧ op ≤ 11) : apV op [rn a, rn b] = nuR (twoW op a b) (twoE op a b) ∧ apE op [rn a, rn b] = twoE op a b := by
  unfold apV apE
  rw [h, if_pos rfl, if_pos rfl, if_neg (by omega), if_neg (by omega), if_neg (by omega), if_neg (by omega), if_pos (by omega)]
  exact ⟨rfl, rfl⟩

theorem vc_lt {a b : Nat} (h : vc a b = true) : a < 2 ^ 64 ∧ b < 2 ^ 64 := by
  obtain ⟨h1, h2⟩ := vc_parts h
  exact ⟨(vp_rep h1).1.1, (vp_rep h2).1.1⟩

theorem vV_agg (v : Rv) (h : v.zs = []) : vV none 0 v = .agg #[.int .i64 v.t, .complex .f64 v.z.1 v.z.2, .bool v.r, .slice none 0 0] := by
  unfold vV; rw [h]; rfl
theorem nuR_zs (z : Wz) (e : Int) : (nuR z e).zs = [] := by unfold nuR; split <;> rfl

set_option maxHeartbeats 2000000 in
theorem apply_bad (op : Int) (ao : Option Addr) (cap n : Nat) (w : World) (hf : ∀ W, Below w.heap.size w W → Calls Try.prog 28 #[.int .i64 op, .slice ao n cap] W fun e w' => e = .returned (.bool false) ∧ Below W.heap.size W w') :
    Calls Try.prog 12 #[.int .i64 op, .slice ao n cap] w fun e w' => e = .returned (.tuple #[vV none 0 rv0, .int .i64 3]) ∧ Below w.heap.size w w' := by
  have b0 := below_alloc w (.cells #[.int .i64 0, .complex .f64 0 0, .bool false, .slice none 0 0] 32)
  have hR0 := Bk.new w 32 #[.int .i64 0, .complex .f64 0 0, .bool false, .slice none 0 0]
  have hff := hf _ b0
  rw [rv_0]
  generalize hW : w.alloc (.cells #[.int .i64 0, .complex .f64 0 0, .bool false, .slice none 0 0] 32) = W at *
  go_enter Try.func12, Try.ntmps12
  go_wp2_with fail
  refine hff.mono ?_
  rintro e w1 ⟨rfl, hb1⟩
  clear hff hf hW
  have hR1 := hR0.up hb1
  have b1 := b0.trans (hb1.mono b0.size)
  go_wp2_with (refine wpList_storeN rfl 32 (.tmp 4) (.tmp 12) rfl w.heap.size 0 [.int .i64 0, .complex .f64 0 0, .bool false, .slice none 0 0] rfl rfl hR1 (Nat.le_refl 4) Try.infoV (one4 _ _ _ _ _ _ _) ?_; intro w9 hB9 hO9)
  have z0 : w9.cell? ⟨w.heap.size, 0, none⟩ = some (.int .i64 0) := hB9.cell 0
  have z1 : w9.cell? ⟨w.heap.size, 1, none⟩ = some (.complex .f64 0 0) := hB9.cell 1
  have z2 : w9.cell? ⟨w.heap.size, 2, none⟩ = some (.bool false) := hB9.cell 2
  have z3 : w9.cell? ⟨w.heap.size, 3, none⟩ = some (.slice none 0 0) := hB9.cell 3
  go_wp2
  exact bodyPost_ret (v := .tuple #[.agg #[.int .i64 0, .complex .f64 0 0, .bool false, .slice none 0 0], .int .i64 3]) (by simp [results, Try.results12, go_sem, z0, z1, z2, z3]) rfl ⟨rfl, b1.trans (hO9.below (Nat.le_refl _))⟩

set_option maxHeartbeats 2000000 in
theorem apply_not (b off cap : Nat) (r : Bool) (w : World) (hc : ∀ X, Below w.heap.size w X → X.cell? ⟨b, off + 2, none⟩ = some (.bool r)) (hf : ∀ W, Below w.heap.size w W → Calls Try.prog 28 #[.int .i64 14, .slice (some ⟨b, off, none⟩) 1 cap] W fun e w' => e = .returned (.bool true) ∧ Below W.heap.size W w') :
    Calls Try.prog 12 #[.int .i64 14, .slice (some ⟨b, off, none⟩) 1 cap] w fun e w' => e = .returned (.tuple #[vV none 0 (rb (!r)), .int .i64 0]) ∧ Below w.heap.size w w' := by
  have b0 := below_alloc w (.cells #[.int .i64 0, .complex .f64 0 0, .bool false, .slice none 0 0] 32)
  have hR0 := Bk.new w 32 #[.int .i64 0, .complex .f64 0 0, .bool false, .slice none 0 0]
  have hff := hf _ b0
  rw [rv_b]
  generalize hW : w.alloc (.cells #[.int .i64 0, .complex .f64 0 0, .bool false, .slice none 0 0] 32) = W at *
  go_enter Try.func12, Try.ntmps12
  go_wp2_with fail
  refine hff.mono ?_
  rintro e w1 ⟨rfl, hb1⟩
  clear hff hf hW
  have hR1 := hR0.up hb1
  have b1 := b0.trans (hb1.mono b0.size)
  have c1 := hc w1 b1
  have ht := fun W => ptruth_any (!r) W
  rw [rv_b] at ht
  clear hc
  go_wp2_with fail
  refine (ht _).mono ?_
  rintro e w2 ⟨rfl, hb2⟩
  have hR2 := hR1.up hb2
  have b2 := b1.trans (hb2.mono b1.size)
  go_wp2_with (refine wpList_storeN rfl 32 (.tmp 4) (.tmp 21) rfl w.heap.size 0 [.int .i64 2, .complex .f64 0 0, .bool (!r), .slice none 0 0] rfl rfl hR2 (Nat.le_refl 4) Try.infoV (one4 _ _ _ _ _ _ _) ?_; intro w9 hB9 hO9)
  have z0 : w9.cell? ⟨w.heap.size, 0, none⟩ = some (.int .i64 2) := hB9.cell 0
  have z1 : w9.cell? ⟨w.heap.size, 1, none⟩ = some (.complex .f64 0 0) := hB9.cell 1
  have z2 : w9.cell? ⟨w.heap.size, 2, none⟩ = some (.bool (!r)) := hB9.cell 2
  have z3 : w9.cell? ⟨w.heap.size, 3, none⟩ = some (.slice none 0 0) := hB9.cell 3
  go_wp2
  exact bodyPost_ret (v := .tuple #[.agg #[.int .i64 2, .complex .f64 0 0, .bool (!r), .slice none 0 0], .int .i64 0]) (by simp [results, Try.results12, go_sem, z0, z1, z2, z3]) rfl ⟨rfl, b2.trans (hO9.below (Nat.le_refl _))⟩

set_option maxHeartbeats 2000000 in
theorem apply_one (op : Int) (b off cap : Nat) (x y p q : Nat) (w : World) (hc : ∀ X, Below w.heap.size w X → X.cell? ⟨b, off + 1, none⟩ = some (.complex .f64 x y)) (ho : 15 ≤ op ∧ op ≤ 17) (h1 : ∀ W, Calls Try.prog 31 #[.int .i64 op, .complex .f64 x y] W fun e w' => e = .returned (.tuple #[.complex .f64 p q, .int .i64 0]) ∧ w' = W) (hf : ∀ W, Below w.heap.size w W → Calls Try.prog 28 #[.int .i64 op, .slice (some ⟨b, off, none⟩) 1 cap] W fun e w' => e = .returned (.bool true) ∧ Below W.heap.size W w') :
    Calls Try.prog 12 #[.int .i64 op, .slice (some ⟨b, off, none⟩) 1 cap] w fun e w' => e = .returned (.tuple #[vV none 0 (rn (p, q)), .int .i64 0]) ∧ Below w.heap.size w w' := by
  have b0 := below_alloc w (.cells #[.int .i64 0, .complex .f64 0 0, .bool false, .slice none 0 0] 32)
  have hR0 := Bk.new w 32 #[.int .i64 0, .complex .f64 0 0, .bool false, .slice none 0 0]
  have hff := hf _ b0
  rw [rv_n]
  have hop : (op == 14) = false ∧ (op == 12) = false ∧ (op == 13) = false := by simp only [beq_eq_false_iff_ne]; omega
  obtain ⟨n14, n12, n13⟩ := hop
  generalize hW : w.alloc (.cells #[.int .i64 0, .complex .f64 0 0, .bool false, .slice none 0 0] 32) = W at *
  go_enter Try.func12, Try.ntmps12
  go_wp2_with fail
  refine hff.mono ?_
  rintro e w1 ⟨rfl, hb1⟩
  clear hff hf hW
  have hR1 := hR0.up hb1
  have b1 := b0.trans (hb1.mono b0.size)
  have c1 := hc w1 b1
  have hn := fun W => pnumber_any (p, q) 0 W
  rw [show nuR (p, q) 0 = rn (p, q) from rfl, rv_n] at hn
  simp only at hn
  clear hc
  have h3 : op = 15 ∨ op = 16 ∨ op = 17 := by omega
  clear ho n14 n12 n13
  rcases h3 with rfl | rfl | rfl
  all_goals
    go_wp2_with fail
    refine (h1 _).mono ?_
    rintro e w2 ⟨rfl, hw2⟩
    rw [hw2]
    clear hw2
    go_wp2_with fail
    refine (hn _).mono ?_
    rintro e w2 ⟨rfl, hb2⟩
    have hR2 := hR1.up hb2
    have b2 := b1.trans (hb2.mono b1.size)
    go_wp2_with (refine wpList_storeN rfl 32 (.tmp 4) (.tmp 64) rfl w.heap.size 0 [.int .i64 1, .complex .f64 p q, .bool false, .slice none 0 0] rfl rfl hR2 (Nat.le_refl 4) Try.infoV (one4 _ _ _ _ _ _ _) ?_; intro w9 hB9 hO9)
    have z0 : w9.cell? ⟨w.heap.size, 0, none⟩ = some (.int .i64 1) := hB9.cell 0
    have z1 : w9.cell? ⟨w.heap.size, 1, none⟩ = some (.complex .f64 p q) := hB9.cell 1
    have z2 : w9.cell? ⟨w.heap.size, 2, none⟩ = some (.bool false) := hB9.cell 2
    have z3 : w9.cell? ⟨w.heap.size, 3, none⟩ = some (.slice none 0 0) := hB9.cell 3
    go_wp2
    exact bodyPost_ret (v := .tuple #[.agg #[.int .i64 1, .complex .f64 p q, .bool false, .slice none 0 0], .int .i64 0]) (by simp [results, Try.results12, go_sem, z0, z1, z2, z3]) rfl ⟨rfl, b2.trans (hO9.below (Nat.le_refl _))⟩

set_option maxHeartbeats 2000000 in
theorem apply_less (b off cap : Nat) (x y u v : Nat) (r : Bool) (w : World) (hc : ∀ X, Below w.heap.size w X → X.cell? ⟨b, off + 1, none⟩ = some (.complex .f64 x y)) (hd : ∀ X, Below w.heap.size w X → X.cell? ⟨b, off + 4 + 1, none⟩ = some (.complex .f64 u v)) (h1 : ∀ W, Calls Try.prog 26 #[.complex .f64 x y, .complex .f64 u v] W fun e w' => e = .returned (.tuple #[.bool r, .int .i64 0]) ∧ w' = W) (hf : ∀ W, Below w.heap.size w W → Calls Try.prog 28 #[.int .i64 13, .slice (some ⟨b, off, none⟩) 2 cap] W fun e w' => e = .returned (.bool true) ∧ Below W.heap.size W w') :
    Calls Try.prog 12 #[.int .i64 13, .slice (some ⟨b, off, none⟩) 2 cap] w fun e w' => e = .returned (.tuple #[vV none 0 (rb r), .int .i64 0]) ∧ Below w.heap.size w w' := by
  have b0 := below_alloc w (.cells #[.int .i64 0, .complex .f64 0 0, .bool false, .slice none 0 0] 32)
  have hR0 := Bk.new w 32 #[.int .i64 0, .complex .f64 0 0, .bool false, .slice none 0 0]
  have hff := hf _ b0
  rw [rv_b]
  generalize hW : w.alloc (.cells #[.int .i64 0, .complex .f64 0 0, .bool false, .slice none 0 0] 32) = W at *
  go_enter Try.func12, Try.ntmps12
  go_wp2_with fail
  refine hff.mono ?_
  rintro e w1 ⟨rfl, hb1⟩
  clear hff hf hW
  have hR1 := hR0.up hb1
  have b1 := b0.trans (hb1.mono b0.size)
  have c1 := hc w1 b1
  have c2 := hd w1 b1
  have ht := fun W => ptruth_any r W
  rw [rv_b] at ht
  clear hc hd
  go_upto_region 9 with fail
  go_quiet ((go_at_call 26; exact Calls.quiet_of_same (h1 _)))
  go_wp2_with fail
  refine (ht _).mono ?_
  rintro e w2 ⟨rfl, hb2'⟩
  have hb2 := Below.thn (below_drewN (Below.refl w1.heap.size w1) nq) hb2'
  have hR2 := hR1.up hb2
  have b2 := b1.trans (hb2.mono b1.size)
  go_wp2_with (refine wpList_storeN rfl 32 (.tmp 4) (.tmp 49) rfl w.heap.size 0 [.int .i64 2, .complex .f64 0 0, .bool r, .slice none 0 0] rfl rfl hR2 (Nat.le_refl 4) Try.infoV (one4 _ _ _ _ _ _ _) ?_; intro w9 hB9 hO9)
  have z0 : w9.cell? ⟨w.heap.size, 0, none⟩ = some (.int .i64 2) := hB9.cell 0
  have z1 : w9.cell? ⟨w.heap.size, 1, none⟩ = some (.complex .f64 0 0) := hB9.cell 1
  have z2 : w9.cell? ⟨w.heap.size, 2, none⟩ = some (.bool r) := hB9.cell 2
  have z3 : w9.cell? ⟨w.heap.size, 3, none⟩ = some (.slice none 0 0) := hB9.cell 3
  go_wp2
  exact bodyPost_ret (v := .tuple #[.agg #[.int .i64 2, .complex .f64 0 0, .bool r, .slice none 0 0], .int .i64 0]) (by simp [results, Try.results12, go_sem, z0, z1, z2, z3]) rfl ⟨rfl, b2.trans (hO9.below (Nat.le_refl _))⟩

set_option maxHeartbeats 2000000 in
theorem apply_eq (b off cap : Nat) (x y u v : Nat) (r1 r2 : Bool) (w : World) (hc : ∀ X, Below w.heap.size w X → X.cell? ⟨b, off + 1, none⟩ = some (.complex .f64 x y)) (hd : ∀ X, Below w.heap.size w X → X.cell? ⟨b, off + 4 + 1, none⟩ = some (.complex .f64 u v)) (ho1 : (FloatKind.f64.format.order x u == some Ordering.eq) = r1) (ho2 : (FloatKind.f64.format.order y v == some Ordering.eq) = r2) (hf : ∀ W, Below w.heap.size w W → Calls Try.prog 28 #[.int .i64 12, .slice (some ⟨b, off, none⟩) 2 cap] W fun e w' => e = .returned (.bool true) ∧ Below W.heap.size W w') :
    Calls Try.prog 12 #[.int .i64 12, .slice (some ⟨b, off, none⟩) 2 cap] w fun e w' => e = .returned (.tuple #[vV none 0 (rb (r1 && r2)), .int .i64 0]) ∧ Below w.heap.size w w' := by
  have b0 := below_alloc w (.cells #[.int .i64 0, .complex .f64 0 0, .bool false, .slice none 0 0] 32)
  have hR0 := Bk.new w 32 #[.int .i64 0, .complex .f64 0 0, .bool false, .slice none 0 0]
  have hff := hf _ b0
  rw [rv_b]
  generalize hW : w.alloc (.cells #[.int .i64 0, .complex .f64 0 0, .bool false, .slice none 0 0] 32) = W at *
  go_enter Try.func12, Try.ntmps12
  go_wp2_with fail
  refine hff.mono ?_
  rintro e w1 ⟨rfl, hb1⟩
  clear hff hf hW
  have hR1 := hR0.up hb1
  have b1 := b0.trans (hb1.mono b0.size)
  have HS : Hid (∀ X, Below w.heap.size w X → X.cell? ⟨b, off + 1, none⟩ = some (.complex .f64 x y) ∧ X.cell? ⟨b, off + 4 + 1, none⟩ = some (.complex .f64 u v)) := fun X hX => ⟨hc X hX, hd X hX⟩
  have s1 := HS.out w1 b1
  have ht := fun W => ptruth_any (r1 && r2) W
  rw [rv_b] at ht
  have hcx := store_cx
  clear hc hd
  go_upto_region 7 with fail
  go_region_held3 (fun X => X.cell? ⟨b, off + 1, none⟩ = some (.complex .f64 x y) ∧ X.cell? ⟨b, off + 4 + 1, none⟩ = some (.complex .f64 u v)) ((refine HS.out _ ?_; repeat (first | (with_reducible exact b1) | (with_reducible exact b2) | (with_reducible exact b3) | refine Below.setCell ?_ (Nat.le_refl w.heap.size) _ | refine Below.drew ?_))) (first
    | (go_at_call 29; (with_reducible refine Calls.mono (ht _) ?_); rintro e w2 ⟨rfl, hb2'⟩; have hb2 := Below.thn (Below.refl w1.heap.size w1).drew hb2'; have hR2 := hR1.up hb2; have b2 := b1.trans (hb2.mono b1.size); have g0 : w2.cell? ⟨w.heap.size, 0, none⟩ = some (.int .i64 0) := hR2.cell 0; have f0 : w2.frozen? ⟨w.heap.size, 0, none⟩ = false := hR2.frz 0; have g1 : w2.cell? ⟨w.heap.size, 1, none⟩ = some (.complex .f64 0 0) := hR2.cell 1; have f1 : w2.frozen? ⟨w.heap.size, 1, none⟩ = false := hR2.frz 1; have g2 : w2.cell? ⟨w.heap.size, 2, none⟩ = some (.bool false) := hR2.cell 2; have f2 : w2.frozen? ⟨w.heap.size, 2, none⟩ = false := hR2.frz 2; have g3 : w2.cell? ⟨w.heap.size, 3, none⟩ = some (.slice none 0 0) := hR2.cell 3; have f3 : w2.frozen? ⟨w.heap.size, 3, none⟩ = false := hR2.frz 3)
    | fail)
  have hR9 := (((hR2.set 0 (.int .i64 2)).set 1 (.complex .f64 0 0)).set 2 (.bool (r1 && r2))).set 3 (.slice none 0 0)
  have b9 := Below.setCell (Below.setCell (Below.setCell (Below.setCell b2 (show w.heap.size ≤ (⟨w.heap.size, 0, none⟩ : Addr).block from Nat.le_refl _) (.int .i64 2)) (show w.heap.size ≤ (⟨w.heap.size, 1, none⟩ : Addr).block from Nat.le_refl _) (.complex .f64 0 0)) (show w.heap.size ≤ (⟨w.heap.size, 2, none⟩ : Addr).block from Nat.le_refl _) (.bool (r1 && r2))) (show w.heap.size ≤ (⟨w.heap.size, 3, none⟩ : Addr).block from Nat.le_refl _) (.slice none 0 0)
  have z0 := hR9.cell 0
  have z1 := hR9.cell 1
  have z2 := hR9.cell 2
  have z3 := hR9.cell 3
  go_wp2_with fail
  exact bodyPost_ret (v := .tuple #[.agg #[.int .i64 2, .complex .f64 0 0, .bool (r1 && r2), .slice none 0 0], .int .i64 0]) (by simp [results, Try.results12, go_sem, z0, z1, z2, z3]) rfl ⟨rfl, b9⟩

set_option maxHeartbeats 2000000 in
theorem apply_two (op : Int) (b off cap : Nat) (x y u v p q : Nat) (k : Int) (w : World) (hc : ∀ X, Below w.heap.size w X → X.cell? ⟨b, off + 1, none⟩ = some (.complex .f64 x y)) (hd : ∀ X, Below w.heap.size w X → X.cell? ⟨b, off + 4 + 1, none⟩ = some (.complex .f64 u v)) (ho : 8 ≤ op ∧ op ≤ 11) (h1 : ∀ W, Calls Try.prog 32 #[.int .i64 op, .complex .f64 x y, .complex .f64 u v] W fun e w' => e = .returned (.tuple #[.complex .f64 p q, .int .i64 k]) ∧ Below W.heap.size W w') (hf : ∀ W, Below w.heap.size w W → Calls Try.prog 28 #[.int .i64 op, .slice (some ⟨b, off, none⟩) 2 cap] W fun e w' => e = .returned (.bool true) ∧ Below W.heap.size W w') :
    Calls Try.prog 12 #[.int .i64 op, .slice (some ⟨b, off, none⟩) 2 cap] w fun e w' => e = .returned (.tuple #[vV none 0 (nuR (p, q) k), .int .i64 k]) ∧ Below w.heap.size w w' := by
  have b0 := below_alloc w (.cells #[.int .i64 0, .complex .f64 0 0, .bool false, .slice none 0 0] 32)
  have hR0 := Bk.new w 32 #[.int .i64 0, .complex .f64 0 0, .bool false, .slice none 0 0]
  have hff := hf _ b0
  have hop : (op == 14) = false ∧ (op == 12) = false ∧ (op == 13) = false ∧ (op == 15) = false ∧ (op == 16) = false ∧ (op == 17) = false := by simp only [beq_eq_false_iff_ne]; omega
  obtain ⟨n14, n12, n13, n15, n16, n17⟩ := hop
  have hn := fun W => pnumber_any (p, q) k W
  rw [vV_agg _ (nuR_zs (p, q) k)] at hn ⊢
  generalize nuR (p, q) k = a9 at *
  obtain ⟨t9, ⟨x9, y9⟩, r9, zs9⟩ := a9
  simp only at hn ⊢
  generalize hW : w.alloc (.cells #[.int .i64 0, .complex .f64 0 0, .bool false, .slice none 0 0] 32) = W at *
  go_enter Try.func12, Try.ntmps12
  go_wp2_with fail
  refine hff.mono ?_
  rintro e w1 ⟨rfl, hb1⟩
  clear hff hf hW
  have hR1 := hR0.up hb1
  have b1 := b0.trans (hb1.mono b0.size)
  have HS : Hid (∀ X, Below w.heap.size w X → X.cell? ⟨b, off + 1, none⟩ = some (.complex .f64 x y) ∧ X.cell? ⟨b, off + 4 + 1, none⟩ = some (.complex .f64 u v)) := fun X hX => ⟨hc X hX, hd X hX⟩
  have s1 := HS.out w1 b1
  have hcx := store_cx
  clear hc hd ho
  go_upto_region 15 with fail
  go_region_held3 (fun X => X.cell? ⟨b, off + 1, none⟩ = some (.complex .f64 x y) ∧ X.cell? ⟨b, off + 4 + 1, none⟩ = some (.complex .f64 u v)) ((refine HS.out _ ?_; repeat (first | (with_reducible exact b1) | (with_reducible exact b2) | (with_reducible exact b3) | refine Below.setCell ?_ (Nat.le_refl w.heap.size) _ | refine Below.drew ?_))) (first
    | (go_at_call 32; (with_reducible refine Calls.mono (h1 _) ?_); rintro e w2 ⟨rfl, hb2'⟩; have hb2 := Below.thn (Below.refl w1.heap.size w1).drew hb2'; have hR2 := hR1.up hb2; have b2 := b1.trans (hb2.mono b1.size))
    | (go_at_call 30; (with_reducible refine Calls.mono (hn _) ?_); rintro e w3 ⟨rfl, hb3⟩; have hR3 := hR2.up hb3; have b3 := b2.trans (hb3.mono b2.size); have g0 : w3.cell? ⟨w.heap.size, 0, none⟩ = some (.int .i64 0) := hR3.cell 0; have f0 : w3.frozen? ⟨w.heap.size, 0, none⟩ = false := hR3.frz 0; have g1 : w3.cell? ⟨w.heap.size, 1, none⟩ = some (.complex .f64 0 0) := hR3.cell 1; have f1 : w3.frozen? ⟨w.heap.size, 1, none⟩ = false := hR3.frz 1; have g2 : w3.cell? ⟨w.heap.size, 2, none⟩ = some (.bool false) := hR3.cell 2; have f2 : w3.frozen? ⟨w.heap.size, 2, none⟩ = false := hR3.frz 2; have g3 : w3.cell? ⟨w.heap.size, 3, none⟩ = some (.slice none 0 0) := hR3.cell 3; have f3 : w3.frozen? ⟨w.heap.size, 3, none⟩ = false := hR3.frz 3)
    | fail)
  have hR9 := (((hR3.set 0 (.int .i64 t9)).set 1 (.complex .f64 x9 y9)).set 2 (.bool r9)).set 3 (.slice none 0 0)
  have b9 := Below.setCell (Below.setCell (Below.setCell (Below.setCell b3 (show w.heap.size ≤ (⟨w.heap.size, 0, none⟩ : Addr).block from Nat.le_refl _) (.int .i64 t9)) (show w.heap.size ≤ (⟨w.heap.size, 1, none⟩ : Addr).block from Nat.le_refl _) (.complex .f64 x9 y9)) (show w.heap.size ≤ (⟨w.heap.size, 2, none⟩ : Addr).block from Nat.le_refl _) (.bool r9)) (show w.heap.size ≤ (⟨w.heap.size, 3, none⟩ : Addr).block from Nat.le_refl _) (.slice none 0 0)
  have z0 := hR9.cell 0
  have z1 := hR9.cell 1
  have z2 := hR9.cell 2
  have z3 := hR9.cell 3
  go_wp2_with fail
  exact bodyPost_ret (v := .tuple #[.agg #[.int .i64 t9, .complex .f64 x9 y9, .bool r9, .slice none 0 0], .int .i64 k]) (by simp [results, Try.results12, go_sem, z0, z1, z2, z3]) rfl ⟨rfl, b9⟩

end Go.Proofs.Ytebpjcjoapahnaa
