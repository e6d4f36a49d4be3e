/-
  Words of 64 bits as rows of 32 cells of two bits: the greater and the lesser cells by shifts and masks, and what follows for the order of words. No dump.
-/
namespace Go.Proofs.Ytiikkbofcccjfaa.RowsM

/-- Cell j of a word. -/
def cell (x j : Nat) : Nat := x / 4 ^ j % 4

def aboveN (x y : Nat) : Nat :=
  let l := ((x >>> 1 &&& (18446744073709551615 - y >>> 1)) ||| ((x &&& (18446744073709551615 - y)) &&& (18446744073709551615 - (y >>> 1 &&& (18446744073709551615 - x >>> 1))))) &&& 6148914691236517205
  l ||| (l <<< 1) % 18446744073709551616

def pickN (m x y : Nat) : Nat := x &&& m ||| y &&& (18446744073709551615 - m)

def joinW (x y : Nat) : Nat := pickN (aboveN x y) x y
def meetW (x y : Nat) : Nat := pickN (aboveN x y) y x
def leW (x y : Nat) : Prop := ∀ j, j < 32 → cell x j ≤ cell y j

theorem bit_not {b : Nat} (hb : b < 18446744073709551616) (i : Nat) : (18446744073709551615 - b).testBit i = (decide (i < 64) && !b.testBit i) := by
  have := Nat.testBit_two_pow_sub_succ (n := 64) (x := b) (by simpa using hb) i
  rw [← this]
  congr 1
  omega

theorem cell_bits (x j : Nat) : cell x j = (x.testBit (2 * j)).toNat + 2 * (x.testBit (2 * j + 1)).toNat := by
  unfold cell
  have h4 : (4 : Nat) ^ j = 2 ^ (2 * j) := by rw [Nat.pow_mul]
  rw [h4, Nat.toNat_testBit, Nat.toNat_testBit, Nat.pow_succ, ← Nat.div_div_eq_div_mul]
  omega

theorem ext {x y : Nat} (hx : x < 18446744073709551616) (hy : y < 18446744073709551616) (h : ∀ j, j < 32 → cell x j = cell y j) : x = y := by
  apply Nat.eq_of_testBit_eq
  intro i
  by_cases hi : i < 64
  · have hj := h (i / 2) (by omega)
    rw [cell_bits, cell_bits] at hj
    rcases Nat.mod_two_eq_zero_or_one i with h0 | h0
    · have e : i = 2 * (i / 2) := by omega
      rw [e]
      revert hj
      cases x.testBit (2 * (i / 2)) <;> cases y.testBit (2 * (i / 2)) <;> cases x.testBit (2 * (i / 2) + 1) <;> cases y.testBit (2 * (i / 2) + 1) <;> simp
    · have e : i = 2 * (i / 2) + 1 := by omega
      rw [e]
      revert hj
      cases x.testBit (2 * (i / 2)) <;> cases y.testBit (2 * (i / 2)) <;> cases x.testBit (2 * (i / 2) + 1) <;> cases y.testBit (2 * (i / 2) + 1) <;> simp
  · rw [Nat.testBit_lt_two_pow (i := i) (x := x), Nat.testBit_lt_two_pow (i := i) (x := y)]
    · exact Nat.lt_of_lt_of_le hy (Nat.pow_le_pow_right (n := 2) (by omega) (show 64 ≤ i by omega))
    · exact Nat.lt_of_lt_of_le hx (Nat.pow_le_pow_right (n := 2) (by omega) (show 64 ≤ i by omega))

theorem bit_lows : ∀ j, j < 32 → Nat.testBit 6148914691236517205 (2 * j) = true ∧ Nat.testBit 6148914691236517205 (2 * j + 1) = false := by decide +kernel

theorem shr_lt {x : Nat} (h : x < 18446744073709551616) (k : Nat) : x >>> k < 18446744073709551616 := by
  rw [Nat.shiftRight_eq_div_pow]; exact Nat.lt_of_le_of_lt (Nat.div_le_self _ _) h

/-- Does x's cell j stand over y's, by the bits? -/
def up (x y j : Nat) : Bool := (x.testBit (2 * j + 1) && !y.testBit (2 * j + 1)) || (x.testBit (2 * j) && !y.testBit (2 * j) && !(y.testBit (2 * j + 1) && !x.testBit (2 * j + 1)))

theorem up_iff (x y j : Nat) : up x y j = decide (cell y j < cell x j) := by
  rw [cell_bits, cell_bits]; unfold up
  cases x.testBit (2 * j) <;> cases y.testBit (2 * j) <;> cases x.testBit (2 * j + 1) <;> cases y.testBit (2 * j + 1) <;> simp

theorem above_bits {x y : Nat} (hx : x < 18446744073709551616) (hy : y < 18446744073709551616) {j : Nat} (hj : j < 32) :
    (aboveN x y).testBit (2 * j) = up x y j ∧ (aboveN x y).testBit (2 * j + 1) = up x y j := by
  have hy1 := shr_lt hy 1
  have hx1 := shr_lt hx 1
  have hu : y >>> 1 &&& (18446744073709551615 - x >>> 1) < 18446744073709551616 := Nat.lt_of_le_of_lt Nat.and_le_left hy1
  obtain ⟨l0, l1⟩ := bit_lows j hj
  have e64 : (18446744073709551616 : Nat) = 2 ^ 64 := by decide
  have a1 : 2 * j < 64 := by omega
  have a2 : 2 * j + 1 < 64 := by omega
  have a3 : j = 0 ∨ (1 ≤ 2 * j) := by omega
  unfold aboveN up
  constructor
  · simp only [Nat.testBit_or, Nat.testBit_and, Nat.testBit_shiftRight, bit_not hy1, bit_not hy, bit_not hx1, bit_not hu, l0, e64, Nat.testBit_mod_two_pow, Nat.testBit_shiftLeft, a1, Nat.add_comm 1 (2 * j)]
    rcases a3 with rfl | a3
    · simp
    · have h1 := (bit_lows (j - 1) (by omega)).2
      have e1 : 2 * (j - 1) + 1 = 2 * j - 1 := by omega
      rw [e1] at h1
      simp [h1]
  · simp only [Nat.testBit_or, Nat.testBit_and, Nat.testBit_shiftRight, bit_not hy1, bit_not hy, bit_not hx1, bit_not hu, l1, e64, Nat.testBit_mod_two_pow, Nat.testBit_shiftLeft, a2]
    have e1 : 2 * j + 1 - 1 = 2 * j := by omega
    simp [e1, l0, Nat.add_comm 1 (2 * j), a1]

theorem above_lt {x y : Nat} : aboveN x y < 18446744073709551616 := by
  unfold aboveN
  have e64 : (18446744073709551616 : Nat) = 2 ^ 64 := by decide
  rw [e64]
  refine Nat.or_lt_two_pow ?_ (Nat.mod_lt _ (by decide))
  exact Nat.lt_of_le_of_lt Nat.and_le_right (by decide)

theorem pick_lt {m x y : Nat} (hx : x < 18446744073709551616) (hy : y < 18446744073709551616) : pickN m x y < 18446744073709551616 := by
  unfold pickN
  have e64 : (18446744073709551616 : Nat) = 2 ^ 64 := by decide
  rw [e64] at *
  exact Nat.or_lt_two_pow (Nat.lt_of_le_of_lt Nat.and_le_left hx) (Nat.lt_of_le_of_lt Nat.and_le_left hy)

theorem pick_bit {m x y : Nat} (hm : m < 18446744073709551616) (i : Nat) (hi : i < 64) : (pickN m x y).testBit i = if m.testBit i then x.testBit i else y.testBit i := by
  unfold pickN
  simp only [Nat.testBit_or, Nat.testBit_and, bit_not hm, hi]
  cases m.testBit i <;> simp

theorem pick_cell {m x y j : Nat} (hm : m < 18446744073709551616) (hj : j < 32) {b : Bool} (h0 : m.testBit (2 * j) = b) (h1 : m.testBit (2 * j + 1) = b) :
    cell (pickN m x y) j = if b then cell x j else cell y j := by
  rw [cell_bits, pick_bit hm _ (by omega), pick_bit hm _ (by omega), h0, h1, cell_bits, cell_bits]
  cases b <;> simp

theorem join_cell {x y : Nat} (hx : x < 18446744073709551616) (hy : y < 18446744073709551616) {j : Nat} (hj : j < 32) : cell (joinW x y) j = max (cell x j) (cell y j) := by
  obtain ⟨h0, h1⟩ := above_bits hx hy hj
  unfold joinW
  rw [pick_cell above_lt hj h0 h1, up_iff]
  by_cases h : cell y j < cell x j
  · simp only [h, decide_true, if_true]; omega
  · simp only [h, decide_false]; simp; omega

theorem meet_cell {x y : Nat} (hx : x < 18446744073709551616) (hy : y < 18446744073709551616) {j : Nat} (hj : j < 32) : cell (meetW x y) j = min (cell x j) (cell y j) := by
  obtain ⟨h0, h1⟩ := above_bits hx hy hj
  unfold meetW
  rw [pick_cell above_lt hj h0 h1, up_iff]
  by_cases h : cell y j < cell x j
  · simp only [h, decide_true, if_true]; omega
  · simp only [h, decide_false]; simp; omega

theorem join_lt {x y : Nat} (hx : x < 18446744073709551616) (hy : y < 18446744073709551616) : joinW x y < 18446744073709551616 := pick_lt hx hy
theorem meet_lt {x y : Nat} (hx : x < 18446744073709551616) (hy : y < 18446744073709551616) : meetW x y < 18446744073709551616 := pick_lt hy hx

theorem above_zero {x y : Nat} (hx : x < 18446744073709551616) (hy : y < 18446744073709551616) : aboveN x y = 0 ↔ leW x y := by
  constructor
  · intro h j hj
    obtain ⟨h0, _⟩ := above_bits hx hy hj
    rw [h, up_iff] at h0
    simp at h0
    omega
  · intro h
    refine ext above_lt (by decide) fun j hj => ?_
    obtain ⟨h0, h1⟩ := above_bits hx hy hj
    have := h j hj
    rw [cell_bits, h0, h1, up_iff]
    have e : decide (cell y j < cell x j) = false := by simp; omega
    rw [e, cell_bits]
    simp

theorem leW_refl (x : Nat) : leW x x := fun _ _ => Nat.le_refl _
theorem leW_trans {x y z : Nat} (h : leW x y) (g : leW y z) : leW x z := fun j hj => Nat.le_trans (h j hj) (g j hj)
theorem leW_antisymm {x y : Nat} (hx : x < 18446744073709551616) (hy : y < 18446744073709551616) (h : leW x y) (g : leW y x) : x = y := ext hx hy fun j hj => Nat.le_antisymm (h j hj) (g j hj)

section
variable {x y z : Nat} (hx : x < 18446744073709551616) (hy : y < 18446744073709551616) (hz : z < 18446744073709551616)
include hx hy
theorem join_comm : joinW x y = joinW y x := ext (join_lt hx hy) (join_lt hy hx) fun j hj => by rw [join_cell hx hy hj, join_cell hy hx hj, Nat.max_comm]
theorem meet_comm : meetW x y = meetW y x := ext (meet_lt hx hy) (meet_lt hy hx) fun j hj => by rw [meet_cell hx hy hj, meet_cell hy hx hj, Nat.min_comm]
theorem le_join_l : leW x (joinW x y) := fun j hj => by rw [join_cell hx hy hj]; omega
theorem le_join_r : leW y (joinW x y) := fun j hj => by rw [join_cell hx hy hj]; omega
theorem meet_le_l : leW (meetW x y) x := fun j hj => by rw [meet_cell hx hy hj]; omega
theorem meet_le_r : leW (meetW x y) y := fun j hj => by rw [meet_cell hx hy hj]; omega
theorem meet_join : meetW x (joinW x y) = x := ext (meet_lt hx (join_lt hx hy)) hx fun j hj => by rw [meet_cell hx (join_lt hx hy) hj, join_cell hx hy hj]; omega
theorem join_meet : joinW x (meetW x y) = x := ext (join_lt hx (meet_lt hx hy)) hx fun j hj => by rw [join_cell hx (meet_lt hx hy) hj, meet_cell hx hy hj]; omega
theorem join_le : leW (joinW x y) z ↔ leW x z ∧ leW y z := by
  constructor
  · intro h
    exact ⟨leW_trans (le_join_l hx hy) h, leW_trans (le_join_r hx hy) h⟩
  · rintro ⟨h, g⟩ j hj
    have := h j hj; have := g j hj
    rw [join_cell hx hy hj]; omega
theorem le_meet : leW z (meetW x y) ↔ leW z x ∧ leW z y := by
  constructor
  · intro h
    exact ⟨leW_trans h (meet_le_l hx hy), leW_trans h (meet_le_r hx hy)⟩
  · rintro ⟨h, g⟩ j hj
    have := h j hj; have := g j hj
    rw [meet_cell hx hy hj]; omega
theorem le_iff_join : leW x y ↔ joinW x y = y := by
  constructor
  · intro h
    refine ext (join_lt hx hy) hy fun j hj => ?_
    have := h j hj
    rw [join_cell hx hy hj]; omega
  · intro h; rw [← h]; exact le_join_l hx hy
theorem le_iff_meet : leW x y ↔ meetW x y = x := by
  constructor
  · intro h
    refine ext (meet_lt hx hy) hx fun j hj => ?_
    have := h j hj
    rw [meet_cell hx hy hj]; omega
  · intro h; rw [← h]; exact meet_le_r hx hy
end

/-- Cells from place u on are nought just if the word shifted down is. -/
theorem shr_zero {x : Nat} (hx : x < 18446744073709551616) (u : Nat) : x >>> (2 * u) = 0 ↔ ∀ j, u ≤ j → j < 32 → cell x j = 0 := by
  constructor
  · intro h j hj _
    have e : x / 4 ^ u = 0 := by rw [Nat.shiftRight_eq_div_pow, Nat.pow_mul] at h; exact h
    have hl : x < 4 ^ u := by
      rcases Nat.lt_or_ge x (4 ^ u) with h | h
      · exact h
      · have := Nat.div_pos h (Nat.pow_pos (by decide)); omega
    have hl2 : x < 4 ^ j := Nat.lt_of_lt_of_le hl (Nat.pow_le_pow_right (by decide) hj)
    unfold cell
    rw [Nat.div_eq_of_lt hl2]
  · intro h
    apply Nat.eq_of_testBit_eq
    intro i
    rw [Nat.testBit_shiftRight, Nat.zero_testBit]
    by_cases hi : 2 * u + i < 64
    · have := h ((2 * u + i) / 2) (by omega) (by omega)
      rw [cell_bits] at this
      rcases Nat.mod_two_eq_zero_or_one (2 * u + i) with h0 | h0
      · have e : 2 * u + i = 2 * ((2 * u + i) / 2) := by omega
        rw [e]; revert this; cases x.testBit (2 * ((2 * u + i) / 2)) <;> simp
      · have e : 2 * u + i = 2 * ((2 * u + i) / 2) + 1 := by omega
        rw [e]; revert this; cases x.testBit (2 * ((2 * u + i) / 2) + 1) <;> simp
    · exact Nat.testBit_lt_two_pow (Nat.lt_of_lt_of_le hx (Nat.pow_le_pow_right (n := 2) (by omega) (show 64 ≤ 2 * u + i by omega)))
end Go.Proofs.Ytiikkbofcccjfaa.RowsM
