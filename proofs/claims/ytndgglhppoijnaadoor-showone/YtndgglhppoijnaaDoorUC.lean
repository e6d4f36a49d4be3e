/-
  4 texts in one: what each proves stands at its head.
-/
import Derived.Shelf.Strconv.Itoa0
import Derived.Shelf.Strconv.Itoa1
import Derived.Shelf.LaysM
import Derived.Shelf.Strconv.Itoa2
import Derived.Shelf.Strconv.Itoa3
import Derived.Shelf.Small.Utf8
import Derived.Shelf.Small.Strs
import Derived.Shelf.Small.Wraps
import Derived.Shelf.Strconv.Atoi
import Derived.Shelf.Strconv.AtoiErrFast
import Derived.Shelf.Strconv.ParseIntEmpty
import Derived.Shelf.Strconv.AtoiFail
import Derived.Shelf.Strconv.Clone
import Derived.Shelf.Strconv.SyntaxError
import Derived.Shelf.LaysC
import Derived.Shelf.Strconv.ToError
import Derived.Shelf.Strconv.Lower
import Derived.Shelf.Strconv.ParseUint10
import Derived.Shelf.Strconv.ParseUint10Empty
import Derived.Shelf.Strconv.ParseUint10Any
import Derived.Shelf.Strconv.ParseInt10
import Derived.Shelf.Strconv.AtoiLong
import Derived.Shelf.Strconv.AtoiInnerAll
import Derived.Shelf.Strconv.RangeError
import Derived.Shelf.Strconv.ToErrorRange
import Derived.Shelf.Strconv.AtoiAll
import Derived.Shelf.Strconv.ErrVarAll
import Derived.Shelf.Strings.Search1
import Derived.Shelf.Strings.Prefix
import Derived.Shelf.Strings.Runes
import Derived.Shelf.Strings.IndexAny
import Derived.Shelf.Strings.AsciiSet
import Derived.Shelf.Unicode.DecodeSlow
import Derived.Shelf.Unicode.DecodeAny
import Derived.Shelf.Unicode.DecodeLast
import Derived.Test.YtndgglhppoijnaaDoorProg
import Derived.Lib.Atoi
import Derived.Lib.ItoaMem
import Derived.Lib.Strings
import Derived.Test.YtndgglhppoijnaaDoorUB
import Derived.Deep.LoopGhost
import Derived.Lib.Builder
import Derived.Deep.WholeRow
import Derived.Lib.AppendIntMem
import Derived.Lib.AtoiErrMem
import Derived.Lib.SmallJoins
import Derived.Deep.QuietTactic
import Derived.BigQuiet
/-
  Contracts of Go's library at this seat's program, laid by the guide's shelf in plain words.
-/
namespace Go.Proofs
open Go.Shelf
def Tryd.laysM171_ren : Go.Shelf.Ren := ⟨fun | 171 => 65 | 243 => 70 | 246 => 73 | 283 => 78 | 284 => 79 | 285 => 80 | 286 => 81 | 129 => 87 | 317 => 86 | 318 => 88 | 319 => 89 | 320 => 90 | 337 => 96 | 338 => 97 | n => n, fun | 3 => 3 | 9 => 9 | 2 => 2 | 4 => 4 | 171 => 124 | 0 => 0 | 53 => 125 | 37 => 22 | 5 => 5 | 173 => 128 | 212 => 133 | 51 => 134 | 20 => 20 | 213 => 135 | 46 => 137 | 232 => 144 | 233 => 145 | n => n, fun | 17 => 1 | 18 => 2 | 19 => 3 | n => n⟩
theorem Tryd.laysM171 : Go.Proofs.LaysM.n171 Tryd.prog Tryd.laysM171_ren := {
  mixed := by kernel_rfl
  f129 := Tryd.func87.trans (congrArg some (by kernel_rfl))
  f171 := Tryd.func65.trans (congrArg some (by kernel_rfl))
  f243 := Tryd.func70.trans (congrArg some (by kernel_rfl))
  f246 := Tryd.func73.trans (congrArg some (by kernel_rfl))
  f283 := Tryd.func78.trans (congrArg some (by kernel_rfl))
  f284 := Tryd.func79.trans (congrArg some (by kernel_rfl))
  f285 := Tryd.func80.trans (congrArg some (by kernel_rfl))
  f286 := Tryd.func81.trans (congrArg some (by kernel_rfl))
  f317 := Tryd.func86.trans (congrArg some (by kernel_rfl))
  f318 := Tryd.func88.trans (congrArg some (by kernel_rfl))
  f319 := Tryd.func89.trans (congrArg some (by kernel_rfl))
  f320 := Tryd.func90.trans (congrArg some (by kernel_rfl))
  f337 := Tryd.func96.trans (congrArg some (by kernel_rfl))
  f338 := Tryd.func97.trans (congrArg some (by kernel_rfl))
  t0 := Tryd.underlying0
  a0 := Tryd.isAgg0
  z0 := Tryd.sizeOf0
  v0 := Tryd.zeroValue0
  t2 := Tryd.underlying2
  a2 := Tryd.isAgg2
  z2 := Tryd.sizeOf2
  v2 := Tryd.zeroValue2
  t3 := Tryd.underlying3
  a3 := Tryd.isAgg3
  z3 := Tryd.sizeOf3
  v3 := Tryd.zeroValue3
  t4 := Tryd.underlying4
  a4 := Tryd.isAgg4
  z4 := Tryd.sizeOf4
  v4 := Tryd.zeroValue4
  t5 := Tryd.underlying5
  a5 := Tryd.isAgg5
  z5 := Tryd.sizeOf5
  v5 := Tryd.zeroValue5
  t9 := Tryd.underlying9
  a9 := Tryd.isAgg9
  z9 := Tryd.sizeOf9
  v9 := Tryd.zeroValue9
  t20 := Tryd.underlying20
  a20 := Tryd.isAgg20
  z20 := Tryd.sizeOf20
  v20 := Tryd.zeroValue20
  t37 := Tryd.underlying22
  a37 := Tryd.isAgg22
  z37 := Tryd.sizeOf22
  v37 := Tryd.zeroValue22
  t46 := Tryd.underlying137
  a46 := Tryd.isAgg137
  z46 := Tryd.sizeOf137
  v46 := Tryd.zeroValue137
  t51 := Tryd.underlying134
  a51 := Tryd.isAgg134
  z51 := Tryd.sizeOf134
  v51 := Tryd.zeroValue134
  t53 := Tryd.underlying125
  a53 := Tryd.isAgg125
  z53 := Tryd.sizeOf125
  v53 := Tryd.zeroValue125
  t171 := Tryd.underlying124
  a171 := Tryd.isAgg124
  z171 := Tryd.sizeOf124
  v171 := Tryd.zeroValue124
  t173 := Tryd.underlying128
  a173 := Tryd.isAgg128
  z173 := Tryd.sizeOf128
  v173 := Tryd.zeroValue128
  t212 := Tryd.underlying133
  a212 := Tryd.isAgg133
  z212 := Tryd.sizeOf133
  v212 := Tryd.zeroValue133
  t213 := Tryd.underlying135
  a213 := Tryd.isAgg135
  z213 := Tryd.sizeOf135
  t232 := Tryd.underlying144
  a232 := Tryd.isAgg144
  z232 := Tryd.sizeOf144
  v232 := Tryd.zeroValue144
  t233 := Tryd.underlying145
  a233 := Tryd.isAgg145
  z233 := Tryd.sizeOf145
  v233 := Tryd.zeroValue145
  g17 := by kernel_rfl
  g18 := by kernel_rfl
  g19 := by kernel_rfl
  i0 := by kernel_rfl
  i2 := by kernel_rfl
  i3 := by kernel_rfl
  i4 := by kernel_rfl
  i5 := by kernel_rfl
  i9 := by kernel_rfl
  i20 := by kernel_rfl
  i37 := by kernel_rfl
  i46 := by kernel_rfl
  i51 := by kernel_rfl
  i53 := by kernel_rfl
  i171 := by kernel_rfl
  i173 := by kernel_rfl
  i212 := by kernel_rfl
  i232 := by kernel_rfl
  i233 := by kernel_rfl
  m17 := by kernel_rfl
  m18 := by kernel_rfl
  m19 := by kernel_rfl }
open Go.RowKit Go.Sort Go.Lib in
theorem Tryd.strconv_Itoa (n : Int) (h0 : -9223372036854775808 ≤ n) (h1 : n ≤ 9223372036854775807) (w : World) (htab : Lib.TabIs Tryd.prog w "internal/strconv.uint64pow10" .u64 Lib.pow10Tab) :
    Calls Tryd.prog 65 #[.int .i64 n] w fun e w' => e = .returned (.string ⟨(Lib.itoa n).toArray⟩) ∧ ∃ k os, w' = grow (w.drewN k) os := Any.strconv_Itoa Tryd.laysM171 n h0 h1 w htab
end Go.Proofs
/-
  Numerals and the texts of numbers, as lists of bytes: what is written is read back, and where the last sign stands.
-/
namespace Go.Proofs.YtndgglhppoijnaaDoor
open Go.Lib

theorem dig_of {d : Nat} (h : d < 10) : (UInt8.ofNat (48 + d)).toNat = 48 + d := by
  rw [UInt8.toNat_ofNat']; omega

/-- How long a numeral within the bounds is. -/
theorem itoa_len {n : Int} (h : n.natAbs ≤ 16777216) : 1 ≤ (itoa n).length ∧ (itoa n).length ≤ 9 := by
  have hd : ∀ u, u ≤ 16777216 → 1 ≤ (decDigits u).length ∧ (decDigits u).length ≤ 8 := by
    intro u hu
    rw [decDigits_length]
    refine ⟨nDigits_pos u, ?_⟩
    apply Decidable.byContradiction
    intro hc
    have h1 : ∀ k u, k < nDigits u → 1 ≤ k → 10 ^ k ≤ u := by
      intro k
      induction k with
      | zero => intro u _ h0; omega
      | succ k ih =>
        intro u hk _
        by_cases hu : u < 10
        · rw [nDigits_small hu] at hk; omega
        · rw [nDigits_big hu] at hk
          by_cases hk0 : k = 0
          · subst hk0; omega
          · have := ih (u / 10) (by omega) (by omega)
            rw [Nat.pow_succ]; omega
    have := h1 8 u (by omega) (by omega)
    omega
  unfold itoa
  split
  · have := hd n.natAbs h
    simp; omega
  · have := hd n.toNat (by omega)
    omega

/-- The text of a number. -/
def txt (p q : Int) : List UInt8 :=
  if q = 0 then itoa p
  else if p = 0 then itoa q ++ [105]
  else if 0 < q then itoa p ++ [43] ++ (itoa q ++ [105])
  else itoa p ++ (itoa q ++ [105])
end Go.Proofs.YtndgglhppoijnaaDoor
/-
  The walk of strings.LastIndexAny at the two signs, over ASCII bytes.
-/
namespace Go.Proofs.YtndgglhppoijnaaDoor
open Go.RowKit
open Go.Lib
set_option maxRecDepth 100000

/-- The two signs. -/
abbrev signs : ByteArray := ⟨#[43, 45]⟩

end Go.Proofs.YtndgglhppoijnaaDoor
/-
  The walks of Text and Parse at the texts of numbers.
-/
namespace Go.Proofs.YtndgglhppoijnaaDoor
open Go.RowKit
open Go.Lib
set_option maxRecDepth 100000

/-- A text of bytes. -/
def bs (l : List UInt8) : ByteArray := ⟨l.toArray⟩

theorem bs_size (l : List UInt8) : (bs l).size = l.length := by simp [bs, ByteArray.size]
theorem bs_list (l : List UInt8) : (bs l).data.toList = l := by simp [bs]
theorem bs_app (a b : List UInt8) : bs a ++ bs b = bs (a ++ b) := by
  apply ByteArray.ext
  simp [bs, ByteArray.data_append]

/-- The library's table of powers lies in memory. -/
def Tab (w : World) : Prop := Lib.TabIs Tryd.prog w "internal/strconv.uint64pow10" .u64 Lib.pow10Tab

theorem tab_keep {w w' : World} (h : Tab w) (hb : Below w.heap.size w w') : Tab w' :=
  Joins.tab_stays (show Tryd.prog.globalNamed "internal/strconv.uint64pow10" = some 1 by kernel_rfl) h hb (Nat.le_refl _)

theorem itoa_w (n : Int) (w : World) (ht : Tab w) (h : n.natAbs ≤ 16777216) :
    Calls Tryd.prog 65 #[.int .i64 n] w fun e w' => e = .returned (.string (bs (itoa n))) ∧ Below w.heap.size w w' := by
  refine (Tryd.strconv_Itoa n (by omega) (by omega) w ht).mono ?_
  rintro e w' ⟨rfl, k, os, rfl⟩
  exact ⟨rfl, Lib.below_grow _ _ (Nat.le_refl _) k os⟩

set_option maxHeartbeats 1000000 in
theorem text_a (p : Int) (w : World) (ht : Tab w) (hp : p.natAbs ≤ 16777216) :
    Calls Tryd.prog 51 #[.complex .f64 (fl p) (fl 0)] w fun e w' => e = .returned (.tuple #[.string (bs (itoa p)), .int .i64 0]) ∧ Below w.heap.size w w' := by
  go_enter Tryd.func51, Tryd.ntmps51
  go_wp2_with fail
  refine (parts_any p 0 _ hp (by decide)).mono ?_
  rintro e w' ⟨rfl, rfl⟩
  go_wp2_with fail
  refine (itoa_w p _ ht hp).mono ?_
  rintro e w1 ⟨rfl, hb⟩
  go_wp2_with fail
  go_ret2
  exact ⟨rfl, hb⟩

set_option maxHeartbeats 1000000 in
theorem text_b (q : Int) (w : World) (ht : Tab w) (h0 : ¬ q = 0) (hq : q.natAbs ≤ 16777216) :
    Calls Tryd.prog 51 #[.complex .f64 (fl 0) (fl q)] w fun e w' => e = .returned (.tuple #[.string (bs (itoa q ++ [105])), .int .i64 0]) ∧ Below w.heap.size w w' := by
  have hz := (itoa_len hq).2
  have hsz : (bs (itoa q)).size ≤ 9 := by rw [bs_size]; exact hz
  clear hz
  go_enter Tryd.func51, Tryd.ntmps51
  go_wp2_with fail
  refine (parts_any 0 q _ (by decide) hq).mono ?_
  rintro e w' ⟨rfl, rfl⟩
  go_wp2_with fail
  refine (itoa_w q _ ht hq).mono ?_
  rintro e w1 ⟨rfl, hb⟩
  go_wp2_with fail
  go_ret2
  refine ⟨?_, hb⟩
  rw [← bs_app]; rfl

set_option maxHeartbeats 1000000 in
theorem text_c (p q : Int) (w : World) (ht : Tab w) (h0 : ¬ p = 0) (h1 : 0 < q) (hp : p.natAbs ≤ 16777216) (hq : q.natAbs ≤ 16777216) :
    Calls Tryd.prog 51 #[.complex .f64 (fl p) (fl q)] w fun e w' => e = .returned (.tuple #[.string (bs (itoa p ++ [43] ++ (itoa q ++ [105]))), .int .i64 0]) ∧ Below w.heap.size w w' := by
  have hz := (itoa_len hq).2
  have hy := (itoa_len hp).2
  have hsz : (bs (itoa q)).size ≤ 9 := by rw [bs_size]; exact hz
  have hsy : (bs (itoa p)).size ≤ 9 := by rw [bs_size]; exact hy
  have hq0 : ¬ q = 0 := by omega
  clear hz hy
  go_enter Tryd.func51, Tryd.ntmps51
  go_wp2_with fail
  refine (parts_any p q _ hp hq).mono ?_
  rintro e w' ⟨rfl, rfl⟩
  go_wp2_with fail
  refine (itoa_w q _ ht hq).mono ?_
  rintro e w1 ⟨rfl, hb⟩
  have ht1 := tab_keep ht hb
  go_wp2_with fail
  refine (itoa_w p _ ht1 hp).mono ?_
  rintro e w2 ⟨rfl, hb2⟩
  go_wp2_with fail
  go_ret2
  refine ⟨?_, hb.trans (hb2.mono hb.size)⟩
  rw [← bs_app, ← bs_app, ← bs_app]; rfl

set_option maxHeartbeats 1000000 in
theorem text_d (p q : Int) (w : World) (ht : Tab w) (h0 : ¬ p = 0) (h1 : q < 0) (hp : p.natAbs ≤ 16777216) (hq : q.natAbs ≤ 16777216) :
    Calls Tryd.prog 51 #[.complex .f64 (fl p) (fl q)] w fun e w' => e = .returned (.tuple #[.string (bs (itoa p ++ (itoa q ++ [105]))), .int .i64 0]) ∧ Below w.heap.size w w' := by
  have hz := (itoa_len hq).2
  have hy := (itoa_len hp).2
  have hsz : (bs (itoa q)).size ≤ 9 := by rw [bs_size]; exact hz
  have hsy : (bs (itoa p)).size ≤ 9 := by rw [bs_size]; exact hy
  have hq0 : ¬ q = 0 := by omega
  clear hz hy
  go_enter Tryd.func51, Tryd.ntmps51
  go_wp2_with fail
  refine (parts_any p q _ hp hq).mono ?_
  rintro e w' ⟨rfl, rfl⟩
  go_wp2_with fail
  refine (itoa_w q _ ht hq).mono ?_
  rintro e w1 ⟨rfl, hb⟩
  have ht1 := tab_keep ht hb
  go_wp2_with fail
  refine (itoa_w p _ ht1 hp).mono ?_
  rintro e w2 ⟨rfl, hb2⟩
  go_wp2_with fail
  go_ret2
  refine ⟨?_, hb.trans (hb2.mono hb.size)⟩
  rw [← bs_app, ← bs_app]; rfl

theorem text_w (p q : Int) (w : World) (ht : Tab w) (hp : p.natAbs ≤ 16777216) (hq : q.natAbs ≤ 16777216) :
    Calls Tryd.prog 51 #[.complex .f64 (fl p) (fl q)] w fun e w' => e = .returned (.tuple #[.string (bs (txt p q)), .int .i64 0]) ∧ Below w.heap.size w w' := by
  unfold txt
  by_cases h0 : q = 0
  · rw [if_pos h0]; subst h0; exact text_a p w ht hp
  · rw [if_neg h0]
    by_cases h1 : p = 0
    · rw [if_pos h1]; subst h1; exact text_b q w ht h0 hq
    · rw [if_neg h1]
      by_cases h2 : 0 < q
      · rw [if_pos h2]; exact text_c p q w ht h1 h2 hp hq
      · rw [if_neg h2]; exact text_d p q w ht h1 (by omega) hp hq

theorem bs_extract (l : List UInt8) (a b : Nat) : (bs l).extract a b = bs ((l.drop a).take (b - a)) := by
  apply ByteArray.ext
  apply Array.ext'
  have := Lib.extract_toList (bs l) a b
  rw [bs_list] at this
  rw [Lib.toList_data] at this
  rw [this, bs_list]

end Go.Proofs.YtndgglhppoijnaaDoor
