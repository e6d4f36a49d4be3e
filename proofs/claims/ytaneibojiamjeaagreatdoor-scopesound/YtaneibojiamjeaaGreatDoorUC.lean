/-
  4 texts in one: what each proves stands at its head.
-/
import Derived.Shelf.Small.Utf8
import Derived.Shelf.Small.Strs
import Derived.Shelf.Small.Wraps
import Derived.Shelf.Strconv.Atoi
import Derived.Shelf.Strconv.AtoiErrFast
import Derived.Shelf.Strconv.ParseIntEmpty
import Derived.Shelf.Strconv.AtoiFail
import Derived.Shelf.Strconv.Clone
import Derived.Shelf.Strconv.SyntaxError
import Derived.Shelf.LaysC
import Derived.Shelf.Strconv.ToError
import Derived.Shelf.Strconv.Lower
import Derived.Shelf.Strconv.ParseUint10
import Derived.Shelf.Strconv.ParseUint10Empty
import Derived.Shelf.Strconv.ParseUint10Any
import Derived.Shelf.Strconv.ParseInt10
import Derived.Shelf.Strconv.AtoiLong
import Derived.Shelf.Strconv.AtoiInnerAll
import Derived.Shelf.Strconv.RangeError
import Derived.Shelf.Strconv.ToErrorRange
import Derived.Shelf.Strconv.AtoiAll
import Derived.Shelf.Strconv.ErrVarAll
import Derived.Shelf.Strings.Search1
import Derived.Shelf.Strings.Prefix
import Derived.Shelf.Strings.Runes
import Derived.Shelf.Strings.IndexAny
import Derived.Shelf.Strings.AsciiSet
import Derived.Shelf.Unicode.DecodeSlow
import Derived.Shelf.Unicode.DecodeAny
import Derived.Shelf.Unicode.DecodeLast
import Derived.Shelf.Strconv.Itoa0
import Derived.Shelf.Strconv.Itoa1
import Derived.Shelf.LaysM
import Derived.Shelf.Strconv.Itoa2
import Derived.Shelf.Strconv.Itoa3
import Derived.Ground.SlgmProg
import Derived.Shelf.SortM.Plain
import Derived.Shelf.SortM.SortNone
import Derived.Test.YtaneibojiamjeaaGreatDoorProg
import Derived.Lib.Atoi
import Derived.Lib.ItoaMem
import Derived.Lib.Strings
import Derived.Test.YtaneibojiamjeaaGreatDoorUB
import Derived.Deep.LoopGhost
import Derived.Lib.Builder
import Derived.Deep.WholeRow
import Derived.Lib.AppendIntMem
import Derived.Lib.AtoiErrMem
import Derived.Lib.SmallJoins
import Derived.Deep.QuietTactic
import Derived.BigQuiet
/-
  Contracts of Go's library at this seat's program, laid by the guide's shelf in plain words.
-/
namespace Go.Proofs
open Go.Shelf
def Tryz.laysM171_ren : Go.Shelf.Ren := ⟨fun | 171 => 40 | 243 => 60 | 246 => 72 | 283 => 88 | 284 => 89 | 285 => 90 | 286 => 91 | 129 => 111 | 317 => 112 | 318 => 113 | 319 => 114 | 320 => 115 | 337 => 125 | 338 => 126 | n => n, fun | 3 => 3 | 9 => 9 | 2 => 2 | 4 => 4 | 171 => 134 | 0 => 0 | 53 => 135 | 37 => 22 | 5 => 5 | 173 => 138 | 212 => 160 | 51 => 157 | 20 => 20 | 213 => 161 | 46 => 133 | 232 => 172 | 233 => 173 | n => n, fun | 17 => 0 | 18 => 1 | 19 => 2 | n => n⟩
theorem Tryz.laysM171 : Go.Proofs.LaysM.n171 Tryz.prog Tryz.laysM171_ren := {
  mixed := by kernel_rfl
  f129 := Tryz.func111.trans (congrArg some (by kernel_rfl))
  f171 := Tryz.func40.trans (congrArg some (by kernel_rfl))
  f243 := Tryz.func60.trans (congrArg some (by kernel_rfl))
  f246 := Tryz.func72.trans (congrArg some (by kernel_rfl))
  f283 := Tryz.func88.trans (congrArg some (by kernel_rfl))
  f284 := Tryz.func89.trans (congrArg some (by kernel_rfl))
  f285 := Tryz.func90.trans (congrArg some (by kernel_rfl))
  f286 := Tryz.func91.trans (congrArg some (by kernel_rfl))
  f317 := Tryz.func112.trans (congrArg some (by kernel_rfl))
  f318 := Tryz.func113.trans (congrArg some (by kernel_rfl))
  f319 := Tryz.func114.trans (congrArg some (by kernel_rfl))
  f320 := Tryz.func115.trans (congrArg some (by kernel_rfl))
  f337 := Tryz.func125.trans (congrArg some (by kernel_rfl))
  f338 := Tryz.func126.trans (congrArg some (by kernel_rfl))
  t0 := Tryz.underlying0
  a0 := Tryz.isAgg0
  z0 := Tryz.sizeOf0
  v0 := Tryz.zeroValue0
  t2 := Tryz.underlying2
  a2 := Tryz.isAgg2
  z2 := Tryz.sizeOf2
  v2 := Tryz.zeroValue2
  t3 := Tryz.underlying3
  a3 := Tryz.isAgg3
  z3 := Tryz.sizeOf3
  v3 := Tryz.zeroValue3
  t4 := Tryz.underlying4
  a4 := Tryz.isAgg4
  z4 := Tryz.sizeOf4
  v4 := Tryz.zeroValue4
  t5 := Tryz.underlying5
  a5 := Tryz.isAgg5
  z5 := Tryz.sizeOf5
  v5 := Tryz.zeroValue5
  t9 := Tryz.underlying9
  a9 := Tryz.isAgg9
  z9 := Tryz.sizeOf9
  v9 := Tryz.zeroValue9
  t20 := Tryz.underlying20
  a20 := Tryz.isAgg20
  z20 := Tryz.sizeOf20
  v20 := Tryz.zeroValue20
  t37 := Tryz.underlying22
  a37 := Tryz.isAgg22
  z37 := Tryz.sizeOf22
  v37 := Tryz.zeroValue22
  t46 := Tryz.underlying133
  a46 := Tryz.isAgg133
  z46 := Tryz.sizeOf133
  v46 := Tryz.zeroValue133
  t51 := Tryz.underlying157
  a51 := Tryz.isAgg157
  z51 := Tryz.sizeOf157
  v51 := Tryz.zeroValue157
  t53 := Tryz.underlying135
  a53 := Tryz.isAgg135
  z53 := Tryz.sizeOf135
  v53 := Tryz.zeroValue135
  t171 := Tryz.underlying134
  a171 := Tryz.isAgg134
  z171 := Tryz.sizeOf134
  v171 := Tryz.zeroValue134
  t173 := Tryz.underlying138
  a173 := Tryz.isAgg138
  z173 := Tryz.sizeOf138
  v173 := Tryz.zeroValue138
  t212 := Tryz.underlying160
  a212 := Tryz.isAgg160
  z212 := Tryz.sizeOf160
  v212 := Tryz.zeroValue160
  t213 := Tryz.underlying161
  a213 := Tryz.isAgg161
  z213 := Tryz.sizeOf161
  t232 := Tryz.underlying172
  a232 := Tryz.isAgg172
  z232 := Tryz.sizeOf172
  v232 := Tryz.zeroValue172
  t233 := Tryz.underlying173
  a233 := Tryz.isAgg173
  z233 := Tryz.sizeOf173
  v233 := Tryz.zeroValue173
  g17 := by kernel_rfl
  g18 := by kernel_rfl
  g19 := by kernel_rfl
  i0 := by kernel_rfl
  i2 := by kernel_rfl
  i3 := by kernel_rfl
  i4 := by kernel_rfl
  i5 := by kernel_rfl
  i9 := by kernel_rfl
  i20 := by kernel_rfl
  i37 := by kernel_rfl
  i46 := by kernel_rfl
  i51 := by kernel_rfl
  i53 := by kernel_rfl
  i171 := by kernel_rfl
  i173 := by kernel_rfl
  i212 := by kernel_rfl
  i232 := by kernel_rfl
  i233 := by kernel_rfl
  m17 := by kernel_rfl
  m18 := by kernel_rfl
  m19 := by kernel_rfl }
open Go.RowKit Go.Sort Go.Lib in
theorem Tryz.strconv_Itoa (n : Int) (h0 : -9223372036854775808 ≤ n) (h1 : n ≤ 9223372036854775807) (w : World) (htab : Lib.TabIs Tryz.prog w "internal/strconv.uint64pow10" .u64 Lib.pow10Tab) :
    Calls Tryz.prog 40 #[.int .i64 n] w fun e w' => e = .returned (.string ⟨(Lib.itoa n).toArray⟩) ∧ ∃ k os, w' = grow (w.drewN k) os := Any.strconv_Itoa Tryz.laysM171 n h0 h1 w htab
end Go.Proofs
/-
  Numerals and the texts of numbers, as lists of bytes: what is written is read back, and where the last sign stands.
-/
namespace Go.Proofs.YtaneibojiamjeaaGreatDoor
open Go.Lib

/-- Is it a decimal digit? -/
def isDig (b : UInt8) : Prop := 48 ≤ b.toNat ∧ b.toNat ≤ 57

theorem dig_of {d : Nat} (h : d < 10) : (UInt8.ofNat (48 + d)).toNat = 48 + d := by
  rw [UInt8.toNat_ofNat']; omega

theorem decDigits_dig (u : Nat) : ∀ b ∈ decDigits u, isDig b := by
  induction u using Nat.strongRecOn with
  | _ u ih =>
    rw [decDigits]
    split
    · rename_i h
      intro b hb
      rw [List.mem_singleton] at hb
      rw [hb]
      unfold isDig
      rw [dig_of h]; omega
    · intro b hb
      rcases List.mem_append.1 hb with hb | hb
      · exact ih (u / 10) (by omega) b hb
      · rw [List.mem_singleton] at hb
        rw [hb]
        unfold isDig
        rw [dig_of (show u % 10 < 10 by omega)]; omega

theorem decFrom_append (l1 l2 : List UInt8) : ∀ acc, decFrom acc (l1 ++ l2) = (decFrom acc l1).bind fun n => decFrom n l2 := by
  induction l1 with
  | nil => intro acc; rfl
  | cons b r ih =>
    intro acc
    simp only [List.cons_append, decFrom]
    cases digitVal b with
    | none => rfl
    | some d => exact ih _

theorem digitVal_of {d : Nat} (h : d < 10) : digitVal (UInt8.ofNat (48 + d)) = some d := by
  unfold digitVal
  rw [dig_of h, if_pos (by omega)]
  congr 1; omega

theorem decFrom_digits (u : Nat) : ∀ acc, decFrom acc (decDigits u) = some (acc * 10 ^ nDigits u + u) := by
  induction u using Nat.strongRecOn with
  | _ u ih =>
    intro acc
    by_cases h : u < 10
    · rw [decDigits_one h, nDigits_small h]
      simp only [decFrom, digitVal_of h, Nat.pow_one]
    · rw [decDigits, dif_neg h, decFrom_append, ih (u / 10) (by omega), nDigits_big h]
      simp only [Option.bind_some, decFrom, digitVal_of (show u % 10 < 10 by omega)]
      congr 1
      rw [Nat.pow_succ, Nat.add_mul, Nat.mul_assoc]
      omega

theorem decDigits_cons (u : Nat) : ∃ b r, decDigits u = b :: r ∧ isDig b := by
  have hl := decDigits_length u
  have hp := nDigits_pos u
  cases h : decDigits u with
  | nil => rw [h] at hl; simp at hl; omega
  | cons b r => exact ⟨b, r, rfl, decDigits_dig u b (by rw [h]; simp)⟩

theorem decNat_digits (u : Nat) : decNat (decDigits u) = some u := by
  obtain ⟨b, r, h, _⟩ := decDigits_cons u
  unfold decNat
  have e : (decDigits u).isEmpty = false := by rw [h]; rfl
  rw [e]
  simp only [Bool.false_eq_true, if_false]
  rw [decFrom_digits]
  simp

theorem atoi_itoa (n : Int) : atoi (itoa n) = some n := by
  unfold itoa
  split
  · rename_i h
    simp only [atoi]
    rw [if_pos (by decide), decNat_digits]
    simp; omega
  · rename_i h
    obtain ⟨b, r, e, hb⟩ := decDigits_cons n.toNat
    have h0 := decNat_digits n.toNat
    rw [e] at h0 ⊢
    simp only [atoi]
    unfold isDig at hb
    have h1 : (b == 45) = false := by rw [beq_eq_false_iff_ne]; intro hc; rw [hc] at hb; simp at hb
    have h2 : (b == 43) = false := by rw [beq_eq_false_iff_ne]; intro hc; rw [hc] at hb; simp at hb
    rw [h1, h2, h0]
    simp; omega

/-- How long a numeral within the bounds is. -/
theorem itoa_len {n : Int} (h : n.natAbs ≤ 16777216) : 1 ≤ (itoa n).length ∧ (itoa n).length ≤ 9 := by
  have hd : ∀ u, u ≤ 16777216 → 1 ≤ (decDigits u).length ∧ (decDigits u).length ≤ 8 := by
    intro u hu
    rw [decDigits_length]
    refine ⟨nDigits_pos u, ?_⟩
    apply Decidable.byContradiction
    intro hc
    have h1 : ∀ k u, k < nDigits u → 1 ≤ k → 10 ^ k ≤ u := by
      intro k
      induction k with
      | zero => intro u _ h0; omega
      | succ k ih =>
        intro u hk _
        by_cases hu : u < 10
        · rw [nDigits_small hu] at hk; omega
        · rw [nDigits_big hu] at hk
          by_cases hk0 : k = 0
          · subst hk0; omega
          · have := ih (u / 10) (by omega) (by omega)
            rw [Nat.pow_succ]; omega
    have := h1 8 u (by omega) (by omega)
    omega
  unfold itoa
  split
  · have := hd n.natAbs h
    simp; omega
  · have := hd n.toNat (by omega)
    omega

/-- The text of a number. -/
def txt (p q : Int) : List UInt8 :=
  if q = 0 then itoa p
  else if p = 0 then itoa q ++ [105]
  else if 0 < q then itoa p ++ [43] ++ (itoa q ++ [105])
  else itoa p ++ (itoa q ++ [105])
end Go.Proofs.YtaneibojiamjeaaGreatDoor
/-
  The walk of strings.LastIndexAny at the two signs, over ASCII bytes.
-/
namespace Go.Proofs.YtaneibojiamjeaaGreatDoor
open Go.RowKit
open Go.Lib
set_option maxRecDepth 100000

end Go.Proofs.YtaneibojiamjeaaGreatDoor
/-
  The walks of Text and Parse at the texts of numbers.
-/
namespace Go.Proofs.YtaneibojiamjeaaGreatDoor
open Go.RowKit
open Go.Lib
set_option maxRecDepth 100000

/-- A text of bytes. -/
def bs (l : List UInt8) : ByteArray := ⟨l.toArray⟩

theorem bs_size (l : List UInt8) : (bs l).size = l.length := by simp [bs, ByteArray.size]
theorem bs_list (l : List UInt8) : (bs l).data.toList = l := by simp [bs]
theorem bs_app (a b : List UInt8) : bs a ++ bs b = bs (a ++ b) := by
  apply ByteArray.ext
  simp [bs, ByteArray.data_append]

/-- The library's table of powers lies in memory. -/
def Tab (w : World) : Prop := Lib.TabIs Tryz.prog w "internal/strconv.uint64pow10" .u64 Lib.pow10Tab

theorem tab_keep {w w' : World} (h : Tab w) (hb : Below w.heap.size w w') : Tab w' :=
  Joins.tab_stays (show Tryz.prog.globalNamed "internal/strconv.uint64pow10" = some 0 by kernel_rfl) h hb (Nat.le_refl _)

theorem bs_extract (l : List UInt8) (a b : Nat) : (bs l).extract a b = bs ((l.drop a).take (b - a)) := by
  apply ByteArray.ext
  apply Array.ext'
  have := Lib.extract_toList (bs l) a b
  rw [bs_list] at this
  rw [Lib.toList_data] at this
  rw [this, bs_list]

end Go.Proofs.YtaneibojiamjeaaGreatDoor
