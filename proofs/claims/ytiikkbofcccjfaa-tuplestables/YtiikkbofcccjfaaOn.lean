/-
  How many bits of a word are set, by sums of ever wider groups; the walks of like and OnesCount64.
-/
import Derived.Test.YtiikkbofcccjfaaRa
namespace Go.Proofs.Ytiikkbofcccjfaa
open Go.RowKit
open RowsM

/-- k bytes c. -/
def msk (c : Nat) : Nat → Nat
  | 0 => 0
  | k + 1 => c + 256 * msk c k
def s1 (k x : Nat) : Nat := (x / 2 &&& msk 85 k) + (x &&& msk 85 k)
def s2 (k x : Nat) : Nat := (x / 4 &&& msk 51 k) + (x &&& msk 51 k)
def s3 (k x : Nat) : Nat := (x / 16 + x) &&& msk 15 k
/-- The bits of a byte. -/
def popb (a : Nat) : Nat := a % 2 + a / 2 % 2 + a / 4 % 2 + a / 8 % 2 + a / 16 % 2 + a / 32 % 2 + a / 64 % 2 + a / 128 % 2
/-- The bits of each of k bytes. -/
def pops : Nat → Nat → Nat
  | 0, _ => 0
  | k + 1, x => popb (x % 256) + 256 * pops k (x / 256)

theorem and256 (x m : Nat) : x &&& m = ((x % 256) &&& (m % 256)) + 256 * ((x / 256) &&& (m / 256)) := by
  have h1 := Nat.and_div_two_pow (a := x) (b := m) (n := 8)
  have h2 := Nat.and_mod_two_pow (a := x) (b := m) (n := 8)
  have h3 := Nat.div_add_mod (x &&& m) (2 ^ 8)
  rw [h1, h2] at h3
  rw [← h3]
  simp only [show (2 : Nat) ^ 8 = 256 from rfl]
  omega

theorem msk_mod (c k : Nat) (h : c < 256) : msk c (k + 1) % 256 = c ∧ msk c (k + 1) / 256 = msk c k := by
  show (c + 256 * msk c k) % 256 = c ∧ (c + 256 * msk c k) / 256 = msk c k
  omega

def f1 (a : Nat) : Nat := (a / 2 &&& 85) + (a &&& 85)
def f2 (a : Nat) : Nat := (a / 4 &&& 51) + (a &&& 51)
def f3 (a : Nat) : Nat := (a / 16 + a) &&& 15

theorem byte1 : ∀ a, a < 256 → ((a / 2 + 128) &&& 85) = (a / 2 &&& 85) ∧ f1 a < 256 := by decide +kernel
theorem byte2 : ∀ a, a < 256 → ((a / 4 + 64) &&& 51) = (a / 4 &&& 51) ∧ ((a / 4 + 128) &&& 51) = (a / 4 &&& 51) ∧ ((a / 4 + 192) &&& 51) = (a / 4 &&& 51) := by decide +kernel
theorem byte3 : ∀ a, a < 256 → f2 (f1 a) ≤ 68 ∧ f2 (f1 a) % 16 ≤ 4 ∧ f3 (f2 (f1 a)) = popb a ∧ popb a ≤ 8 := by decide +kernel

theorem s1_step (k a b : Nat) (ha : a < 256) : s1 (k + 1) (a + 256 * b) = f1 a + 256 * s1 k b := by
  unfold s1 f1
  obtain ⟨m1, m2⟩ := msk_mod 85 k (by decide)
  rw [and256 ((a + 256 * b) / 2), and256 (a + 256 * b), m1, m2]
  have e1 : (a + 256 * b) / 2 % 256 = a / 2 + 128 * (b % 2) := by omega
  have e2 : (a + 256 * b) / 2 / 256 = b / 2 := by omega
  have e3 : (a + 256 * b) % 256 = a := by omega
  have e4 : (a + 256 * b) / 256 = b := by omega
  rw [e1, e2, e3, e4]
  have e5 : (a / 2 + 128 * (b % 2)) &&& 85 = a / 2 &&& 85 := by
    rcases Nat.mod_two_eq_zero_or_one b with h | h
    · rw [h]; rfl
    · rw [h]; exact (byte1 a ha).1
  rw [e5]
  omega

theorem s2_step (k a b : Nat) (ha : a < 256) : s2 (k + 1) (a + 256 * b) = f2 a + 256 * s2 k b := by
  unfold s2 f2
  obtain ⟨m1, m2⟩ := msk_mod 51 k (by decide)
  rw [and256 ((a + 256 * b) / 4), and256 (a + 256 * b), m1, m2]
  have e1 : (a + 256 * b) / 4 % 256 = a / 4 + 64 * (b % 4) := by omega
  have e2 : (a + 256 * b) / 4 / 256 = b / 4 := by omega
  have e3 : (a + 256 * b) % 256 = a := by omega
  have e4 : (a + 256 * b) / 256 = b := by omega
  rw [e1, e2, e3, e4]
  have e5 : (a / 4 + 64 * (b % 4)) &&& 51 = a / 4 &&& 51 := by
    have : b % 4 = 0 ∨ b % 4 = 1 ∨ b % 4 = 2 ∨ b % 4 = 3 := by omega
    rcases this with h | h | h | h
    · rw [h]; rfl
    · rw [h]; exact (byte2 a ha).1
    · rw [h]; exact (byte2 a ha).2.1
    · rw [h]; exact (byte2 a ha).2.2
  rw [e5]
  omega

theorem s3_step (k a b : Nat) (ha : a ≤ 68) (hb : b % 16 ≤ 4) : s3 (k + 1) (a + 256 * b) = f3 a + 256 * s3 k b := by
  unfold s3 f3
  obtain ⟨m1, m2⟩ := msk_mod 15 k (by decide)
  rw [and256, m1, m2]
  have e1 : ((a + 256 * b) / 16 + (a + 256 * b)) % 256 = a / 16 + a + 16 * (b % 16) := by omega
  have e2 : ((a + 256 * b) / 16 + (a + 256 * b)) / 256 = b / 16 + b := by omega
  rw [e1, e2]
  have e3 : (a / 16 + a + 16 * (b % 16)) &&& 15 = (a / 16 + a) &&& 15 := by
    rw [show (15 : Nat) = 2 ^ 4 - 1 from rfl, Nat.and_two_pow_sub_one_eq_mod, Nat.and_two_pow_sub_one_eq_mod]
    omega
  rw [e3]

theorem pops_eq : ∀ (k x : Nat), x < 256 ^ k → s3 k (s2 k (s1 k x)) = pops k x ∧ s2 k (s1 k x) % 16 ≤ 4
  | 0, x, h => by
    have : x = 0 := by simpa using h
    subst this
    decide
  | k + 1, x, h => by
    have hb : x / 256 < 256 ^ k := by
      rw [Nat.pow_succ] at h
      exact Nat.div_lt_of_lt_mul (by rw [Nat.mul_comm]; exact h)
    obtain ⟨i1, i2⟩ := pops_eq k (x / 256) hb
    have ha : x % 256 < 256 := Nat.mod_lt _ (by decide)
    obtain ⟨b1, b2, b3, b4⟩ := byte3 _ ha
    have e : x = x % 256 + 256 * (x / 256) := by omega
    have h1 : s1 (k + 1) x = f1 (x % 256) + 256 * s1 k (x / 256) := by
      rw [← s1_step k _ _ ha, ← e]
    rw [h1, s2_step k _ _ (byte1 _ ha).2, s3_step k _ _ b1 i2, i1, b3]
    refine ⟨rfl, ?_⟩
    omega

/-- How many bits of a word are set. -/
def ones (x : Nat) : Nat := popb (x % 256) + popb (x / 256 % 256) + popb (x / 65536 % 256) + popb (x / 16777216 % 256) + popb (x / 4294967296 % 256) + popb (x / 1099511627776 % 256) + popb (x / 281474976710656 % 256) + popb (x / 72057594037927936 % 256)

theorem pops8 (x : Nat) : pops 8 x = popb (x % 256) + 256 * popb (x / 256 % 256) + 65536 * popb (x / 65536 % 256) + 16777216 * popb (x / 16777216 % 256) + 4294967296 * popb (x / 4294967296 % 256) + 1099511627776 * popb (x / 1099511627776 % 256) + 281474976710656 * popb (x / 281474976710656 % 256) + 72057594037927936 * popb (x / 72057594037927936 % 256) := by
  simp only [pops, Nat.div_div_eq_div_mul, Nat.reduceMul]
  omega

theorem popb_le (a : Nat) : popb a ≤ 8 := by unfold popb; omega

theorem div_low (a m q : Nat) (h : a < m) : (a + m * q) / m = q := by
  rw [Nat.add_mul_div_left _ _ (by omega), Nat.div_eq_of_lt h, Nat.zero_add]

theorem last_sum (p0 p1 p2 p3 p4 p5 p6 p7 y y1 y2 y3 : Nat) (h0 : p0 ≤ 8) (h1 : p1 ≤ 8) (h2 : p2 ≤ 8) (h3 : p3 ≤ 8) (h4 : p4 ≤ 8) (h5 : p5 ≤ 8) (h6 : p6 ≤ 8) (h7 : p7 ≤ 8)
    (hy : y = p0 + 256 * p1 + 65536 * p2 + 16777216 * p3 + 4294967296 * p4 + 1099511627776 * p5 + 281474976710656 * p6 + 72057594037927936 * p7)
    (hy1 : y1 = y + y / 256) (hy2 : y2 = y1 + y1 / 65536) (hy3 : y3 = y2 + y2 / 4294967296) :
    y3 % 128 = p0 + p1 + p2 + p3 + p4 + p5 + p6 + p7 ∧ y3 < 9223372036854775808 ∧ y2 < 18446744073709551616 ∧ y1 < 18446744073709551616 := by
  have e0 : y = p0 + 256 * (p1 + 256 * p2 + 65536 * p3 + 16777216 * p4 + 4294967296 * p5 + 1099511627776 * p6 + 281474976710656 * p7) := by clear hy1 hy2 hy3; omega
  have e1 : y / 256 = p1 + 256 * p2 + 65536 * p3 + 16777216 * p4 + 4294967296 * p5 + 1099511627776 * p6 + 281474976710656 * p7 := by
    rw [e0]; exact div_low _ _ _ (by clear hy hy1 hy2 hy3 e0; omega)
  rw [e1] at hy1
  clear e0 e1
  have k1 : y1 = (p0 + p1 + 256 * (p1 + p2)) + 65536 * ((p2 + p3) + 256 * (p3 + p4) + 65536 * (p4 + p5) + 16777216 * (p5 + p6) + 4294967296 * (p6 + p7) + 1099511627776 * p7) := by clear hy2 hy3; omega
  clear hy1 hy
  have e2 : y1 / 65536 = (p2 + p3) + 256 * (p3 + p4) + 65536 * (p4 + p5) + 16777216 * (p5 + p6) + 4294967296 * (p6 + p7) + 1099511627776 * p7 := by
    rw [k1]; exact div_low _ _ _ (by clear k1 hy2 hy3; omega)
  rw [e2] at hy2
  have l1 : y1 < 18446744073709551616 := by clear hy2 hy3 e2; omega
  have k2 : y2 = (p0 + p1 + p2 + p3 + 256 * (p1 + p2 + p3 + p4) + 65536 * (p2 + p3 + p4 + p5) + 16777216 * (p3 + p4 + p5 + p6)) + 4294967296 * ((p4 + p5 + p6 + p7) + 256 * (p5 + p6 + p7) + 65536 * (p6 + p7) + 16777216 * p7) := by clear hy3 e2 l1; omega
  clear hy2 k1 e2
  have e3 : y2 / 4294967296 = (p4 + p5 + p6 + p7) + 256 * (p5 + p6 + p7) + 65536 * (p6 + p7) + 16777216 * p7 := by
    rw [k2]; exact div_low _ _ _ (by clear k2 hy3; omega)
  rw [e3] at hy3
  have l2 : y2 < 18446744073709551616 := by clear hy3 e3; omega
  have k3 : y3 = (p0 + p1 + p2 + p3 + p4 + p5 + p6 + p7) + 128 * (2 * (p1 + p2 + p3 + p4 + p5 + p6 + p7) + 512 * (p2 + p3 + p4 + p5 + p6 + p7) + 131072 * (p3 + p4 + p5 + p6 + p7) + 33554432 * (p4 + p5 + p6 + p7) + 8589934592 * (p5 + p6 + p7) + 2199023255552 * (p6 + p7) + 562949953421312 * p7) := by clear e3 l2; omega
  clear k2 hy3 e3
  refine ⟨?_, ?_, l2, l1⟩
  · rw [k3, Nat.add_mul_mod_self_left, Nat.mod_eq_of_lt (by clear k3; omega)]
  · clear l1 l2; omega

theorem msk85 : msk 85 8 = 6148914691236517205 := by decide
theorem msk51 : msk 51 8 = 3689348814741910323 := by decide
theorem msk15 : msk 15 8 = 1085102592571150095 := by decide

theorem and_le_r (a b : Nat) : a &&& b ≤ b := Nat.and_le_right

theorem w1 (x : Nat) (hx : x < 18446744073709551616) : IntKind.u64.wrap (bits .and .u64 ((x : Int) / 2) 6148914691236517205 + bits .and .u64 (x : Int) 6148914691236517205) = ((s1 8 x : Nat) : Int) ∧ s1 8 x ≤ 12297829382473034410 := by
  have a1 := u64_and_nat (x / 2) 6148914691236517205 (by omega) (by decide)
  have a2 := u64_and_nat x 6148914691236517205 hx (by decide)
  have c1 : ((x / 2 : Nat) : Int) = (x : Int) / 2 := by omega
  rw [c1] at a1
  have e1 : ((6148914691236517205 : Nat) : Int) = 6148914691236517205 := rfl
  rw [e1] at a1 a2
  rw [a1, a2, IntKind.wrap_u64]
  have b1 := and_le_r (x / 2) 6148914691236517205
  have b2 := and_le_r x 6148914691236517205
  unfold s1
  rw [msk85]
  generalize x / 2 &&& 6148914691236517205 = p at *
  generalize x &&& 6148914691236517205 = q at *
  clear a1 a2 c1
  omega

theorem w2 (x : Nat) (hx : x < 18446744073709551616) : IntKind.u64.wrap (bits .and .u64 ((x : Int) / 4) 3689348814741910323 + bits .and .u64 (x : Int) 3689348814741910323) = ((s2 8 x : Nat) : Int) ∧ s2 8 x ≤ 7378697629483820646 := by
  have a1 := u64_and_nat (x / 4) 3689348814741910323 (by omega) (by decide)
  have a2 := u64_and_nat x 3689348814741910323 hx (by decide)
  have c1 : ((x / 4 : Nat) : Int) = (x : Int) / 4 := by omega
  rw [c1] at a1
  have e1 : ((3689348814741910323 : Nat) : Int) = 3689348814741910323 := rfl
  rw [e1] at a1 a2
  rw [a1, a2, IntKind.wrap_u64]
  have b1 := and_le_r (x / 4) 3689348814741910323
  have b2 := and_le_r x 3689348814741910323
  unfold s2
  rw [msk51]
  generalize x / 4 &&& 3689348814741910323 = p at *
  generalize x &&& 3689348814741910323 = q at *
  clear a1 a2 c1
  omega

theorem w3 (x : Nat) (hx : x ≤ 7378697629483820646) : bits .and .u64 (IntKind.u64.wrap ((x : Int) / 16 + (x : Int))) 1085102592571150095 = ((s3 8 x : Nat) : Int) := by
  have c1 : IntKind.u64.wrap ((x : Int) / 16 + (x : Int)) = ((x / 16 + x : Nat) : Int) := by rw [IntKind.wrap_u64]; omega
  rw [c1]
  unfold s3
  rw [msk15]
  exact u64_and_nat (x / 16 + x) 1085102592571150095 (by omega) (by decide)

theorem and127 (a : Nat) (h : a < 9223372036854775808) : bits .and .i64 (wrap64 (a : Int)) 127 = ((a % 128 : Nat) : Int) := by
  have e : wrap64 (a : Int) = (a : Int) := by unfold wrap64; omega
  rw [e]
  have h1 : (BitVec.ofInt 64 (a : Int)).toNat = a := by rw [BitVec.ofInt_natCast, BitVec.toNat_ofNat]; exact Nat.mod_eq_of_lt (by omega)
  have h2 : (BitVec.ofInt 64 (127 : Int)).toNat = 127 := by decide
  show IntKind.i64.wrap ((BitVec.ofInt 64 (a : Int) &&& BitVec.ofInt 64 (127 : Int)).toNat : Int) = _
  rw [BitVec.toNat_and, h1, h2, show (127 : Nat) = 2 ^ 7 - 1 from rfl, Nat.and_two_pow_sub_one_eq_mod, IntKind.wrap_i64]
  omega

theorem wadd (x y : Nat) (h : x + y < 18446744073709551616) : IntKind.u64.wrap ((x : Int) + (y : Int)) = ((x + y : Nat) : Int) := by rw [IntKind.wrap_u64]; omega
theorem divn (x m : Nat) : (x : Int) / (m : Int) = ((x / m : Nat) : Int) := (Int.natCast_ediv x m).symm

theorem ones_end (p0 p1 p2 p3 p4 p5 p6 p7 y : Nat) (h0 : p0 ≤ 8) (h1 : p1 ≤ 8) (h2 : p2 ≤ 8) (h3 : p3 ≤ 8) (h4 : p4 ≤ 8) (h5 : p5 ≤ 8) (h6 : p6 ≤ 8) (h7 : p7 ≤ 8)
    (hy : y = p0 + 256 * p1 + 65536 * p2 + 16777216 * p3 + 4294967296 * p4 + 1099511627776 * p5 + 281474976710656 * p6 + 72057594037927936 * p7) :
    bits .and .i64 (wrap64 (IntKind.u64.wrap (IntKind.u64.wrap (IntKind.u64.wrap ((y : Int) + (y : Int) / 256) + IntKind.u64.wrap ((y : Int) + (y : Int) / 256) / 65536) + IntKind.u64.wrap (IntKind.u64.wrap ((y : Int) + (y : Int) / 256) + IntKind.u64.wrap ((y : Int) + (y : Int) / 256) / 65536) / 4294967296))) 127 = ((p0 + p1 + p2 + p3 + p4 + p5 + p6 + p7 : Nat) : Int) := by
  obtain ⟨t, k3, k2, k1⟩ := last_sum p0 p1 p2 p3 p4 p5 p6 p7 y _ _ _ h0 h1 h2 h3 h4 h5 h6 h7 hy rfl rfl rfl
  have d1 : (y : Int) / 256 = ((y / 256 : Nat) : Int) := (Int.natCast_ediv y 256).symm
  rw [d1, wadd y (y / 256) k1]
  generalize y + y / 256 = y1 at *
  have d2 : (y1 : Int) / 65536 = ((y1 / 65536 : Nat) : Int) := (Int.natCast_ediv y1 65536).symm
  rw [d2, wadd y1 (y1 / 65536) k2]
  generalize y1 + y1 / 65536 = y2 at *
  have d3 : (y2 : Int) / 4294967296 = ((y2 / 4294967296 : Nat) : Int) := (Int.natCast_ediv y2 4294967296).symm
  rw [d3, wadd y2 (y2 / 4294967296) (by omega), ← t]
  exact and127 _ k3

set_option maxRecDepth 10000 in
theorem ones_any (x : Nat) (w : World) (hx : x < 18446744073709551616) :
    Calls Try.prog 59 #[.int .u64 x] w fun e w' => e = .returned (.int .i64 (ones x : Nat)) ∧ w' = w := by
  go_enter Try.func59, Try.ntmps59
  go_wp2
  go_ret
  refine ⟨ret_int ?_, rfl⟩
  obtain ⟨r1, l1⟩ := w1 x hx
  rw [r1]
  obtain ⟨r2, l2⟩ := w2 (s1 8 x) (by omega)
  rw [r2, w3 (s2 8 (s1 8 x)) l2]
  have hp := (pops_eq 8 x (by rw [show (256 : Nat) ^ 8 = 18446744073709551616 from rfl]; exact hx)).1
  rw [hp]
  exact ones_end _ _ _ _ _ _ _ _ _ (popb_le (x % 256)) (popb_le (x / 256 % 256)) (popb_le (x / 65536 % 256)) (popb_le (x / 16777216 % 256)) (popb_le (x / 4294967296 % 256)) (popb_le (x / 1099511627776 % 256)) (popb_le (x / 281474976710656 % 256)) (popb_le (x / 72057594037927936 % 256)) (pops8 x)

/-- The lower bits of the cells that hold v. -/
def likeN (x v : Nat) : Nat := 6148914691236517205 &&& (18446744073709551615 - ((x ^^^ v * 6148914691236517205) ||| (x ^^^ v * 6148914691236517205) >>> 1))

theorem xor_lt {a b : Nat} (h : a < 18446744073709551616) (g : b < 18446744073709551616) : a ^^^ b < 18446744073709551616 := by
  have e64 : (18446744073709551616 : Nat) = 2 ^ 64 := by decide
  rw [e64] at *; exact Nat.xor_lt_two_pow h g

theorem like_any (x : Nat) (v : Int) (w : World) (hx : x < 18446744073709551616) (v0 : 0 ≤ v) (v3 : v ≤ 3) :
    Calls Try.prog 60 #[.int .u64 x, .int .i64 v] w fun e w' => e = .returned (.int .u64 (likeN x v.toNat : Nat)) ∧ w' = w := by
  have hv : v * 6148914691236517205 = ((v.toNat * 6148914691236517205 : Nat) : Int) := by omega
  have hvl : v.toNat * 6148914691236517205 < 18446744073709551616 := by omega
  have hu := xor_lt hx hvl
  have e1 : bits .andNot .u64 6148914691236517205 (bits .or .u64 (bits .xor .u64 (x : Int) (v * 6148914691236517205)) (bits .xor .u64 (x : Int) (v * 6148914691236517205) / 2)) = ((likeN x v.toNat : Nat) : Int) := by
    rw [hv, u64_xor_nat _ _ hx hvl, half_nat, u64_or_nat _ _ hu (shr_lt hu 1)]
    exact u64_andNot_nat 6148914691236517205 _ (by decide) (or_lt hu (shr_lt hu 1))
  clear hv hvl hu
  go_enter Try.func60, Try.ntmps60
  go_wp2
  go_ret
  first | exact ⟨ret_int e1, rfl⟩ | exact ⟨rfl, rfl⟩

/-- The cells that hold v have 1, the others 0. -/
theorem like_cell {x v j : Nat} (hx : x < 18446744073709551616) (hv : v ≤ 3) (hj : j < 32) : cell (likeN x v) j = if cell x j = v then 1 else 0 := by
  have hvl : v * 6148914691236517205 < 18446744073709551616 := by omega
  have hu := xor_lt hx hvl
  have ho := or_lt hu (shr_lt hu 1)
  obtain ⟨l0, l1⟩ := bit_lows j hj
  have b0 : (v * 6148914691236517205).testBit (2 * j) = v.testBit 0 ∧ (v * 6148914691236517205).testBit (2 * j + 1) = v.testBit 1 := by
    have h4 : ∀ v, v ≤ 3 → ∀ j, j < 32 → (v * 6148914691236517205).testBit (2 * j) = v.testBit 0 ∧ (v * 6148914691236517205).testBit (2 * j + 1) = v.testBit 1 := by decide +kernel
    exact h4 v hv j hj
  rw [cell_bits, cell_bits]
  have a1 : 2 * j < 64 := by omega
  have c0 : (likeN x v).testBit (2 * j) = !((x.testBit (2 * j) ^^ v.testBit 0) || (x.testBit (2 * j + 1) ^^ v.testBit 1)) := by
    unfold likeN
    simp only [Nat.testBit_and, bit_not ho, Nat.testBit_or, Nat.testBit_shiftRight, Nat.testBit_xor, l0, a1, b0.1, Nat.add_comm 1 (2 * j), b0.2]
    simp
  have c1 : (likeN x v).testBit (2 * j + 1) = false := by
    unfold likeN
    simp only [Nat.testBit_and, l1, Bool.false_and]
  rw [c0, c1]
  have : v = 0 ∨ v = 1 ∨ v = 2 ∨ v = 3 := by omega
  rcases this with rfl | rfl | rfl | rfl <;> cases x.testBit (2 * j) <;> cases x.testBit (2 * j + 1) <;> decide

/-- A sum over the 32 cells of a word. -/
def S32 (f : Nat → Nat) : Nat := ((List.range 32).map f).sum

theorem S32_eq (f : Nat → Nat) : S32 f = (f 0 + f 1 + f 2 + f 3) + (f 4 + f 5 + f 6 + f 7) + (f 8 + f 9 + f 10 + f 11) + (f 12 + f 13 + f 14 + f 15) + (f 16 + f 17 + f 18 + f 19) + (f 20 + f 21 + f 22 + f 23) + (f 24 + f 25 + f 26 + f 27) + (f 28 + f 29 + f 30 + f 31) := by
  have : List.range 32 = [0, 1, 2, 3, 4, 5, 6, 7, 8, 9, 10, 11, 12, 13, 14, 15, 16, 17, 18, 19, 20, 21, 22, 23, 24, 25, 26, 27, 28, 29, 30, 31] := by decide
  unfold S32
  rw [this]
  simp only [List.map_cons, List.map_nil, List.sum_cons, List.sum_nil, Nat.add_assoc, Nat.add_zero]

theorem popb_cells : ∀ a, a < 256 → a % 4 ≤ 1 → a / 4 % 4 ≤ 1 → a / 16 % 4 ≤ 1 → a / 64 % 4 ≤ 1 → popb a = a % 4 + a / 4 % 4 + a / 16 % 4 + a / 64 % 4 := by decide +kernel

theorem byte_cells (y b i : Nat) (hi : i < 4) : cell y (4 * b + i) = y / 256 ^ b % 256 / 4 ^ i % 4 := by
  unfold cell
  have e : (4 : Nat) ^ (4 * b + i) = 256 ^ b * 4 ^ i := by rw [Nat.pow_add, Nat.pow_mul]
  rw [e, ← Nat.div_div_eq_div_mul]
  have : i = 0 ∨ i = 1 ∨ i = 2 ∨ i = 3 := by omega
  rcases this with rfl | rfl | rfl | rfl <;> simp only [Nat.reducePow, Nat.pow_zero, Nat.pow_one, Nat.div_one] <;> omega

theorem byte_pop (y b : Nat) (h : ∀ j, cell y (4 * b + j) ≤ 1 ∨ 4 ≤ j) : popb (y / 256 ^ b % 256) = cell y (4 * b) + cell y (4 * b + 1) + cell y (4 * b + 2) + cell y (4 * b + 3) := by
  have c0 := byte_cells y b 0 (by omega)
  have c1 := byte_cells y b 1 (by omega)
  have c2 := byte_cells y b 2 (by omega)
  have c3 := byte_cells y b 3 (by omega)
  have h0 := h 0
  have h1 := h 1
  have h2 := h 2
  have h3 := h 3
  simp only [Nat.add_zero, Nat.pow_zero, Nat.div_one, Nat.pow_one, Nat.reducePow] at c0 c1 c2 c3 h0
  rw [popb_cells _ (Nat.mod_lt _ (by decide)) (by omega) (by omega) (by omega) (by omega), c0, c1, c2, c3]

/-- Of a word whose cells are 0 or 1 the bits are as many as the cells come to. -/
theorem ones_cells {y : Nat} (h : ∀ j, j < 32 → cell y j ≤ 1) : ones y = S32 (cell y) := by
  have hb : ∀ b, b < 8 → ∀ j, cell y (4 * b + j) ≤ 1 ∨ 4 ≤ j := fun b hb j => by
    rcases Nat.lt_or_ge j 4 with hj | hj
    · exact .inl (h _ (by omega))
    · exact .inr hj
  have p0 := byte_pop y 0 (hb 0 (by decide))
  have p1 := byte_pop y 1 (hb 1 (by decide))
  have p2 := byte_pop y 2 (hb 2 (by decide))
  have p3 := byte_pop y 3 (hb 3 (by decide))
  have p4 := byte_pop y 4 (hb 4 (by decide))
  have p5 := byte_pop y 5 (hb 5 (by decide))
  have p6 := byte_pop y 6 (hb 6 (by decide))
  have p7 := byte_pop y 7 (hb 7 (by decide))
  simp only [Nat.mul_zero, Nat.zero_add, Nat.pow_zero, Nat.div_one, Nat.pow_one, Nat.reducePow, Nat.reduceMul, Nat.reduceAdd, Nat.mul_one] at p0 p1 p2 p3 p4 p5 p6 p7
  rw [S32_eq]
  unfold ones
  rw [p0, p1, p2, p3, p4, p5, p6, p7]

/-- How many cells of a word hold v. -/
def cnt (x v : Nat) : Nat := S32 (fun j => if cell x j = v then 1 else 0)

theorem S32_congr {f g : Nat → Nat} (h : ∀ j, j < 32 → f j = g j) : S32 f = S32 g := by
  unfold S32
  congr 1
  exact List.map_congr_left fun j hj => h j (List.mem_range.1 hj)

theorem ones_like {x v : Nat} (hx : x < 18446744073709551616) (hv : v ≤ 3) : ones (likeN x v) = cnt x v := by
  rw [ones_cells (fun j hj => by rw [like_cell hx hv hj]; split <;> omega)]
  exact S32_congr fun j hj => like_cell hx hv hj

theorem like_lt (x v : Nat) : likeN x v < 18446744073709551616 := Nat.lt_of_le_of_lt Nat.and_le_left (by decide)

theorem cnt_le (x v : Nat) : cnt x v ≤ 32 := by
  unfold cnt
  rw [S32_eq]
  have h : ∀ j, (if cell x j = v then 1 else 0) ≤ 1 := fun j => by split <;> omega
  have h0 := h 0; have h1 := h 1; have h2 := h 2; have h3 := h 3; have h4 := h 4; have h5 := h 5; have h6 := h 6; have h7 := h 7
  have h8 := h 8; have h9 := h 9; have h10 := h 10; have h11 := h 11; have h12 := h 12; have h13 := h 13; have h14 := h 14; have h15 := h 15
  have h16 := h 16; have h17 := h 17; have h18 := h 18; have h19 := h 19; have h20 := h 20; have h21 := h 21; have h22 := h 22; have h23 := h 23
  have h24 := h 24; have h25 := h 25; have h26 := h 26; have h27 := h 27; have h28 := h 28; have h29 := h 29; have h30 := h 30; have h31 := h 31
  clear h
  omega

theorem S32_add (f g : Nat → Nat) : S32 (fun j => f j + g j) = S32 f + S32 g := by
  rw [S32_eq, S32_eq, S32_eq]; omega

/-- Each cell holds just one of 0, 1, 2 and 3. -/
theorem cnt_all (x : Nat) : cnt x 0 + cnt x 1 + cnt x 2 + cnt x 3 = 32 := by
  unfold cnt
  rw [← S32_add, ← S32_add, ← S32_add]
  have : S32 (fun j => (((if cell x j = 0 then 1 else 0) + if cell x j = 1 then 1 else 0) + if cell x j = 2 then 1 else 0) + if cell x j = 3 then 1 else 0) = S32 (fun _ => 1) := by
    refine S32_congr fun j _ => ?_
    have := Nat.mod_lt (x / 4 ^ j) (show 0 < 4 by decide)
    have hc : cell x j = 0 ∨ cell x j = 1 ∨ cell x j = 2 ∨ cell x j = 3 := by unfold cell; omega
    rcases hc with h | h | h | h <;> simp [h]
  rw [this]
  decide
end Go.Proofs.Ytiikkbofcccjfaa
