/-
  The order of rows, their joins and meets, as lists of words.
-/
import Derived.Test.YtiikkbofcccjfaaSm
namespace Go.Proofs.Ytiikkbofcccjfaa
open RowsM

def Bd (xs : List Nat) : Prop := ∀ z, z ∈ xs → z < 18446744073709551616

theorem Bd.get {xs : List Nat} (h : Bd xs) (k : Nat) : xs.getD k 0 < 18446744073709551616 := by
  rw [List.getD_eq_getElem?_getD]
  rcases Nat.lt_or_ge k xs.length with ht | ht
  · rw [List.getElem?_eq_getElem ht]; exact h _ (List.getElem_mem ht)
  · rw [List.getElem?_eq_none ht]; decide

theorem zip_getD (f : Nat → Nat → Nat) {xs ys : List Nat} (hl : xs.length = ys.length) {k : Nat} (hk : k < xs.length) : (List.zipWith f xs ys).getD k 0 = f (xs.getD k 0) (ys.getD k 0) := by
  have hk2 : k < ys.length := by omega
  simp [List.getD_eq_getElem?_getD, List.getElem?_zipWith, hk, hk2]

theorem zip_len (f : Nat → Nat → Nat) {xs ys : List Nat} (hl : xs.length = ys.length) : (List.zipWith f xs ys).length = xs.length := by
  rw [List.length_zipWith, ← hl, Nat.min_self]

theorem below_iff {xs ys : List Nat} (hx : Bd xs) (hy : Bd ys) : belowL xs ys = true ↔ ∀ k, k < xs.length → leW (xs.getD k 0) (ys.getD k 0) := by
  unfold belowL
  rw [decide_eq_true_eq]
  constructor
  · intro h k hk; exact (above_zero (hx.get k) (hy.get k)).1 (h k hk)
  · intro h k hk; exact (above_zero (hx.get k) (hy.get k)).2 (h k hk)

theorem bool_iff {a b : Bool} (h : a = true ↔ b = true) : a = b := by cases a <;> cases b <;> simp_all

section
variable {xs ys zs : List Nat} (hx : Bd xs) (hy : Bd ys) (hz : Bd zs) (hl : xs.length = ys.length) (hm : xs.length = zs.length)
include hx hy
theorem join_bd : Bd (List.zipWith joinW xs ys) := zip_lt (fun _ _ => join_lt) hx hy
theorem meet_bd : Bd (List.zipWith meetW xs ys) := zip_lt (fun _ _ => meet_lt) hx hy
include hl
theorem joinL_comm : List.zipWith joinW xs ys = List.zipWith joinW ys xs :=
  ext_getD (by rw [zip_len _ hl, zip_len _ hl.symm, hl]) fun j hj => by
    rw [zip_len _ hl] at hj
    rw [zip_getD _ hl hj, zip_getD _ hl.symm (by omega), join_comm (hx.get j) (hy.get j)]
theorem meetL_comm : List.zipWith meetW xs ys = List.zipWith meetW ys xs :=
  ext_getD (by rw [zip_len _ hl, zip_len _ hl.symm, hl]) fun j hj => by
    rw [zip_len _ hl] at hj
    rw [zip_getD _ hl hj, zip_getD _ hl.symm (by omega), meet_comm (hx.get j) (hy.get j)]
theorem below_join_l : belowL xs (List.zipWith joinW xs ys) = true := (below_iff hx (join_bd hx hy)).2 fun k hk => by rw [zip_getD _ hl hk]; exact le_join_l (hx.get k) (hy.get k)
theorem below_join_r : belowL ys (List.zipWith joinW xs ys) = true := (below_iff hy (join_bd hx hy)).2 fun k hk => by rw [zip_getD _ hl (by omega)]; exact le_join_r (hx.get k) (hy.get k)
theorem meet_below_l : belowL (List.zipWith meetW xs ys) xs = true := (below_iff (meet_bd hx hy) hx).2 fun k hk => by
  rw [zip_len _ hl] at hk
  rw [zip_getD _ hl hk]; exact meet_le_l (hx.get k) (hy.get k)
theorem meet_below_r : belowL (List.zipWith meetW xs ys) ys = true := (below_iff (meet_bd hx hy) hy).2 fun k hk => by
  rw [zip_len _ hl] at hk
  rw [zip_getD _ hl hk]; exact meet_le_r (hx.get k) (hy.get k)
theorem meet_joinL : List.zipWith meetW xs (List.zipWith joinW xs ys) = xs :=
  ext_getD (by rw [zip_len _ (zip_len _ hl).symm]) fun j hj => by
    rw [zip_len _ (zip_len _ hl).symm] at hj
    rw [zip_getD _ (zip_len _ hl).symm hj, zip_getD _ hl hj, meet_join (hx.get j) (hy.get j)]
theorem join_meetL : List.zipWith joinW xs (List.zipWith meetW xs ys) = xs :=
  ext_getD (by rw [zip_len _ (zip_len _ hl).symm]) fun j hj => by
    rw [zip_len _ (zip_len _ hl).symm] at hj
    rw [zip_getD _ (zip_len _ hl).symm hj, zip_getD _ hl hj, join_meet (hx.get j) (hy.get j)]
include hz
theorem join_belowL : belowL (List.zipWith joinW xs ys) zs = (belowL xs zs && belowL ys zs) := by
  refine bool_iff ?_
  rw [Bool.and_eq_true, below_iff (join_bd hx hy) hz, below_iff hx hz, below_iff hy hz, zip_len _ hl]
  constructor
  · intro h
    refine ⟨fun k hk => ?_, fun k hk => ?_⟩
    · have := h k hk; rw [zip_getD _ hl hk] at this; exact ((join_le (hx.get k) (hy.get k)).1 this).1
    · have := h k (by omega); rw [zip_getD _ hl (by omega)] at this; exact ((join_le (hx.get k) (hy.get k)).1 this).2
  · rintro ⟨h, g⟩ k hk
    rw [zip_getD _ hl hk]
    exact (join_le (hx.get k) (hy.get k)).2 ⟨h k hk, g k (by omega)⟩
include hm
theorem below_meetL : belowL zs (List.zipWith meetW xs ys) = (belowL zs xs && belowL zs ys) := by
  refine bool_iff ?_
  rw [Bool.and_eq_true, below_iff hz (meet_bd hx hy), below_iff hz hx, below_iff hz hy]
  constructor
  · intro h
    refine ⟨fun k hk => ?_, fun k hk => ?_⟩
    · have := h k hk; rw [zip_getD _ hl (by omega)] at this; exact ((le_meet (hx.get k) (hy.get k)).1 this).1
    · have := h k (by omega); rw [zip_getD _ hl (by omega)] at this; exact ((le_meet (hx.get k) (hy.get k)).1 this).2
  · rintro ⟨h, g⟩ k hk
    rw [zip_getD _ hl (by omega)]
    exact (le_meet (hx.get k) (hy.get k)).2 ⟨h k hk, g k (by omega)⟩
end

theorem below_self {xs : List Nat} (hx : Bd xs) : belowL xs xs = true := (below_iff hx hx).2 fun _ _ => leW_refl _

theorem below_anti {xs ys : List Nat} (hx : Bd xs) (hy : Bd ys) (hl : xs.length = ys.length) : (belowL xs ys && belowL ys xs) = (xs == ys) := by
  refine bool_iff ?_
  rw [Bool.and_eq_true, below_iff hx hy, below_iff hy hx, beq_iff_eq]
  constructor
  · rintro ⟨h, g⟩
    exact ext_getD hl fun k hk => leW_antisymm (hx.get k) (hy.get k) (h k hk) (g k (by omega))
  · rintro rfl
    exact ⟨fun _ _ => leW_refl _, fun _ _ => leW_refl _⟩

theorem below_by_join {xs ys : List Nat} (hx : Bd xs) (hy : Bd ys) (hl : xs.length = ys.length) : belowL xs ys = (List.zipWith joinW xs ys == ys) := by
  refine bool_iff ?_
  rw [below_iff hx hy, beq_iff_eq]
  constructor
  · intro h
    exact ext_getD (by rw [zip_len _ hl, hl]) fun k hk => by
      rw [zip_len _ hl] at hk
      rw [zip_getD _ hl hk]; exact (le_iff_join (hx.get k) (hy.get k)).1 (h k hk)
  · intro h k hk
    refine (le_iff_join (hx.get k) (hy.get k)).2 ?_
    rw [← zip_getD joinW hl hk, h]

theorem below_by_meet {xs ys : List Nat} (hx : Bd xs) (hy : Bd ys) (hl : xs.length = ys.length) : belowL xs ys = (List.zipWith meetW xs ys == xs) := by
  refine bool_iff ?_
  rw [below_iff hx hy, beq_iff_eq]
  constructor
  · intro h
    exact ext_getD (zip_len _ hl) fun k hk => by
      rw [zip_len _ hl] at hk
      rw [zip_getD _ hl hk]; exact (le_iff_meet (hx.get k) (hy.get k)).1 (h k hk)
  · intro h k hk
    refine (le_iff_meet (hx.get k) (hy.get k)).2 ?_
    rw [← zip_getD meetW hl hk, h]

theorem below_trans {xs ys zs : List Nat} (hx : Bd xs) (hy : Bd ys) (hz : Bd zs) (hl : xs.length = ys.length) (h : belowL xs ys = true) (g : belowL ys zs = true) : belowL xs zs = true := by
  rw [below_iff hx hy] at h
  rw [below_iff hy hz] at g
  exact (below_iff hx hz).2 fun k hk => leW_trans (h k hk) (g k (by omega))

/-! What is a row stays one. -/
theorem okR_iff {n : Int} {xs : List Nat} (hx : Bd xs) : okR n xs = true ↔ 0 ≤ n ∧ n ≤ 4096 ∧ (xs.length : Int) = (n + 31) / 32 ∧ (n % 32 = 0 ∨ ∀ j, (n % 32).toNat ≤ j → j < 32 → cell (xs.getD (xs.length - 1) 0) j = 0) := by
  unfold okR
  rw [decide_eq_true_eq, shr_zero (hx.get _)]

theorem okR_join {n : Int} {xs ys : List Nat} (hx : Bd xs) (hy : Bd ys) (h : okR n xs = true) (g : okR n ys = true) : okR n (List.zipWith joinW xs ys) = true := by
  rw [okR_iff hx] at h
  rw [okR_iff hy] at g
  rw [okR_iff (join_bd hx hy)]
  obtain ⟨h0, h1, h2, h3⟩ := h
  obtain ⟨_, _, g2, g3⟩ := g
  have hl : xs.length = ys.length := by omega
  refine ⟨h0, h1, by rw [zip_len _ hl]; exact h2, ?_⟩
  rcases h3 with h3 | h3
  · exact .inl h3
  rcases g3 with g3 | g3
  · exact .inl g3
  by_cases h4 : n % 32 = 0
  · exact .inl h4
  refine .inr fun j hj hj2 => ?_
  have hp : xs.length - 1 < xs.length := by omega
  rw [zip_len _ hl, zip_getD _ hl hp, join_cell (hx.get _) (hy.get _) hj2, h3 j hj hj2]
  have := g3 j hj hj2
  rw [hl, this]
  rfl

theorem okR_meet {n : Int} {xs ys : List Nat} (hx : Bd xs) (hy : Bd ys) (h : okR n xs = true) (g : okR n ys = true) : okR n (List.zipWith meetW xs ys) = true := by
  rw [okR_iff hx] at h
  rw [okR_iff hy] at g
  rw [okR_iff (meet_bd hx hy)]
  obtain ⟨h0, h1, h2, h3⟩ := h
  obtain ⟨_, _, g2, g3⟩ := g
  have hl : xs.length = ys.length := by omega
  refine ⟨h0, h1, by rw [zip_len _ hl]; exact h2, ?_⟩
  rcases h3 with h3 | h3
  · exact .inl h3
  by_cases h4 : n % 32 = 0
  · exact .inl h4
  refine .inr fun j hj hj2 => ?_
  have hp : xs.length - 1 < xs.length := by omega
  rw [zip_len _ hl, zip_getD _ hl hp, meet_cell (hx.get _) (hy.get _) hj2, h3 j hj hj2, Nat.zero_min]

theorem okP_of {n : Int} {xs ys : List Nat} (h : okR n xs = true) (g : okR n ys = true) : okP n n xs ys = true := by
  unfold okP; rw [h, g]; simp
theorem okP_parts {n m : Int} {xs ys : List Nat} (h : okP n m xs ys = true) : okR n xs = true ∧ okR m ys = true ∧ n = m := by
  unfold okP at h
  simp only [Bool.and_eq_true, beq_iff_eq] at h
  exact ⟨h.1.1, h.1.2, h.2⟩
theorem okR_len {n : Int} {xs ys : List Nat} (h : okR n xs = true) (g : okR n ys = true) : xs.length = ys.length := okP_len (okP_of h g)
end Go.Proofs.Ytiikkbofcccjfaa
