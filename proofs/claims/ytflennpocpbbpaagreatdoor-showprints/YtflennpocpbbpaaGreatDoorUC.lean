/-
  4 texts in one: what each proves stands at its head.
-/
import Derived.Shelf.Small.Utf8
import Derived.Shelf.Small.Strs
import Derived.Shelf.Small.Wraps
import Derived.Shelf.Strconv.Atoi
import Derived.Shelf.Strconv.Itoa0
import Derived.Shelf.Strconv.Itoa1
import Derived.Shelf.LaysM
import Derived.Shelf.Strconv.Itoa2
import Derived.Shelf.Strconv.Itoa3
import Derived.Shelf.Strconv.AtoiErrFast
import Derived.Shelf.Strconv.ParseIntEmpty
import Derived.Shelf.Strconv.AtoiFail
import Derived.Shelf.Strconv.Clone
import Derived.Shelf.Strconv.SyntaxError
import Derived.Shelf.LaysC
import Derived.Shelf.Strconv.ToError
import Derived.Shelf.Strconv.Lower
import Derived.Shelf.Strconv.ParseUint10
import Derived.Shelf.Strconv.ParseUint10Empty
import Derived.Shelf.Strconv.ParseUint10Any
import Derived.Shelf.Strconv.ParseInt10
import Derived.Shelf.Strconv.AtoiLong
import Derived.Shelf.Strconv.AtoiInnerAll
import Derived.Shelf.Strconv.RangeError
import Derived.Shelf.Strconv.ToErrorRange
import Derived.Shelf.Strconv.AtoiAll
import Derived.Shelf.Strconv.ErrVarAll
import Derived.Shelf.Strings.Search1
import Derived.Shelf.Strings.Prefix
import Derived.Shelf.Strings.Runes
import Derived.Shelf.Strings.IndexAny
import Derived.Shelf.Strings.AsciiSet
import Derived.Shelf.Unicode.DecodeSlow
import Derived.Shelf.Unicode.DecodeAny
import Derived.Shelf.Unicode.DecodeLast
import Derived.Test.YtflennpocpbbpaaGreatDoorProg
import Derived.Lib.Atoi
import Derived.Lib.ItoaMem
import Derived.Lib.Strings
import Derived.Test.YtflennpocpbbpaaGreatDoorUB
import Derived.Deep.LoopGhost
import Derived.Lib.Builder
import Derived.Deep.WholeRow
import Derived.Lib.AppendIntMem
import Derived.Lib.AtoiErrMem
import Derived.Lib.SmallJoins
import Derived.Deep.QuietTactic
import Derived.BigQuiet
/-
  Contracts of Go's library at this seat's program, laid by the guide's shelf in plain words.
-/
namespace Go.Proofs
open Go.Shelf
def Tryz.laysM171_ren : Go.Shelf.Ren := ⟨fun | 171 => 101 | 243 => 134 | 246 => 154 | 283 => 164 | 284 => 165 | 285 => 166 | 286 => 167 | 129 => 174 | 317 => 173 | 318 => 175 | 319 => 176 | 320 => 177 | 337 => 183 | 338 => 184 | n => n, fun | 3 => 3 | 9 => 9 | 2 => 2 | 4 => 4 | 171 => 198 | 0 => 0 | 53 => 140 | 37 => 22 | 5 => 5 | 173 => 201 | 212 => 208 | 51 => 209 | 20 => 20 | 213 => 210 | 46 => 183 | 232 => 217 | 233 => 218 | n => n, fun | 17 => 8 | 18 => 9 | 19 => 10 | n => n⟩
theorem Tryz.laysM171 : Go.Proofs.LaysM.n171 Tryz.prog Tryz.laysM171_ren := {
  mixed := by kernel_rfl
  f129 := Tryz.func174.trans (congrArg some (by kernel_rfl))
  f171 := Tryz.func101.trans (congrArg some (by kernel_rfl))
  f243 := Tryz.func134.trans (congrArg some (by kernel_rfl))
  f246 := Tryz.func154.trans (congrArg some (by kernel_rfl))
  f283 := Tryz.func164.trans (congrArg some (by kernel_rfl))
  f284 := Tryz.func165.trans (congrArg some (by kernel_rfl))
  f285 := Tryz.func166.trans (congrArg some (by kernel_rfl))
  f286 := Tryz.func167.trans (congrArg some (by kernel_rfl))
  f317 := Tryz.func173.trans (congrArg some (by kernel_rfl))
  f318 := Tryz.func175.trans (congrArg some (by kernel_rfl))
  f319 := Tryz.func176.trans (congrArg some (by kernel_rfl))
  f320 := Tryz.func177.trans (congrArg some (by kernel_rfl))
  f337 := Tryz.func183.trans (congrArg some (by kernel_rfl))
  f338 := Tryz.func184.trans (congrArg some (by kernel_rfl))
  t0 := Tryz.underlying0
  a0 := Tryz.isAgg0
  z0 := Tryz.sizeOf0
  v0 := Tryz.zeroValue0
  t2 := Tryz.underlying2
  a2 := Tryz.isAgg2
  z2 := Tryz.sizeOf2
  v2 := Tryz.zeroValue2
  t3 := Tryz.underlying3
  a3 := Tryz.isAgg3
  z3 := Tryz.sizeOf3
  v3 := Tryz.zeroValue3
  t4 := Tryz.underlying4
  a4 := Tryz.isAgg4
  z4 := Tryz.sizeOf4
  v4 := Tryz.zeroValue4
  t5 := Tryz.underlying5
  a5 := Tryz.isAgg5
  z5 := Tryz.sizeOf5
  v5 := Tryz.zeroValue5
  t9 := Tryz.underlying9
  a9 := Tryz.isAgg9
  z9 := Tryz.sizeOf9
  v9 := Tryz.zeroValue9
  t20 := Tryz.underlying20
  a20 := Tryz.isAgg20
  z20 := Tryz.sizeOf20
  v20 := Tryz.zeroValue20
  t37 := Tryz.underlying22
  a37 := Tryz.isAgg22
  z37 := Tryz.sizeOf22
  v37 := Tryz.zeroValue22
  t46 := Tryz.underlying183
  a46 := Tryz.isAgg183
  z46 := Tryz.sizeOf183
  v46 := Tryz.zeroValue183
  t51 := Tryz.underlying209
  a51 := Tryz.isAgg209
  z51 := Tryz.sizeOf209
  v51 := Tryz.zeroValue209
  t53 := Tryz.underlying140
  a53 := Tryz.isAgg140
  z53 := Tryz.sizeOf140
  v53 := Tryz.zeroValue140
  t171 := Tryz.underlying198
  a171 := Tryz.isAgg198
  z171 := Tryz.sizeOf198
  v171 := Tryz.zeroValue198
  t173 := Tryz.underlying201
  a173 := Tryz.isAgg201
  z173 := Tryz.sizeOf201
  v173 := Tryz.zeroValue201
  t212 := Tryz.underlying208
  a212 := Tryz.isAgg208
  z212 := Tryz.sizeOf208
  v212 := Tryz.zeroValue208
  t213 := Tryz.underlying210
  a213 := Tryz.isAgg210
  z213 := Tryz.sizeOf210
  t232 := Tryz.underlying217
  a232 := Tryz.isAgg217
  z232 := Tryz.sizeOf217
  v232 := Tryz.zeroValue217
  t233 := Tryz.underlying218
  a233 := Tryz.isAgg218
  z233 := Tryz.sizeOf218
  v233 := Tryz.zeroValue218
  g17 := by kernel_rfl
  g18 := by kernel_rfl
  g19 := by kernel_rfl
  i0 := by kernel_rfl
  i2 := by kernel_rfl
  i3 := by kernel_rfl
  i4 := by kernel_rfl
  i5 := by kernel_rfl
  i9 := by kernel_rfl
  i20 := by kernel_rfl
  i37 := by kernel_rfl
  i46 := by kernel_rfl
  i51 := by kernel_rfl
  i53 := by kernel_rfl
  i171 := by kernel_rfl
  i173 := by kernel_rfl
  i212 := by kernel_rfl
  i232 := by kernel_rfl
  i233 := by kernel_rfl
  m17 := by kernel_rfl
  m18 := by kernel_rfl
  m19 := by kernel_rfl }
open Go.RowKit Go.Sort Go.Lib in
theorem Tryz.strconv_Itoa (n : Int) (h0 : -9223372036854775808 ≤ n) (h1 : n ≤ 9223372036854775807) (w : World) (htab : Lib.TabIs Tryz.prog w "internal/strconv.uint64pow10" .u64 Lib.pow10Tab) :
    Calls Tryz.prog 101 #[.int .i64 n] w fun e w' => e = .returned (.string ⟨(Lib.itoa n).toArray⟩) ∧ ∃ k os, w' = grow (w.drewN k) os := Any.strconv_Itoa Tryz.laysM171 n h0 h1 w htab
end Go.Proofs
/-
  Numerals and the texts of numbers, as lists of bytes: what is written is read back, and where the last sign stands.
-/
namespace Go.Proofs.YtflennpocpbbpaaGreatDoor
open Go.Lib

theorem dig_of {d : Nat} (h : d < 10) : (UInt8.ofNat (48 + d)).toNat = 48 + d := by
  rw [UInt8.toNat_ofNat']; omega

/-- How long a numeral within the bounds is. -/
theorem itoa_len {n : Int} (h : n.natAbs ≤ 16777216) : 1 ≤ (itoa n).length ∧ (itoa n).length ≤ 9 := by
  have hd : ∀ u, u ≤ 16777216 → 1 ≤ (decDigits u).length ∧ (decDigits u).length ≤ 8 := by
    intro u hu
    rw [decDigits_length]
    refine ⟨nDigits_pos u, ?_⟩
    apply Decidable.byContradiction
    intro hc
    have h1 : ∀ k u, k < nDigits u → 1 ≤ k → 10 ^ k ≤ u := by
      intro k
      induction k with
      | zero => intro u _ h0; omega
      | succ k ih =>
        intro u hk _
        by_cases hu : u < 10
        · rw [nDigits_small hu] at hk; omega
        · rw [nDigits_big hu] at hk
          by_cases hk0 : k = 0
          · subst hk0; omega
          · have := ih (u / 10) (by omega) (by omega)
            rw [Nat.pow_succ]; omega
    have := h1 8 u (by omega) (by omega)
    omega
  unfold itoa
  split
  · have := hd n.natAbs h
    simp; omega
  · have := hd n.toNat (by omega)
    omega

/-- The text of a number. -/
def txt (p q : Int) : List UInt8 :=
  if q = 0 then itoa p
  else if p = 0 then itoa q ++ [105]
  else if 0 < q then itoa p ++ [43] ++ (itoa q ++ [105])
  else itoa p ++ (itoa q ++ [105])
end Go.Proofs.YtflennpocpbbpaaGreatDoor
/-
  The walk of strings.LastIndexAny at the two signs, over ASCII bytes.
-/
namespace Go.Proofs.YtflennpocpbbpaaGreatDoor
open Go.RowKit
open Go.Lib
set_option maxRecDepth 100000

/-- The two signs. -/
abbrev signs : ByteArray := ⟨#[43, 45]⟩

end Go.Proofs.YtflennpocpbbpaaGreatDoor
/-
  The walks of Text and Parse at the texts of numbers.
-/
namespace Go.Proofs.YtflennpocpbbpaaGreatDoor
open Go.RowKit
open Go.Lib
set_option maxRecDepth 100000

/-- A text of bytes. -/
def bs (l : List UInt8) : ByteArray := ⟨l.toArray⟩

theorem bs_size (l : List UInt8) : (bs l).size = l.length := by simp [bs, ByteArray.size]
theorem bs_list (l : List UInt8) : (bs l).data.toList = l := by simp [bs]
theorem bs_app (a b : List UInt8) : bs a ++ bs b = bs (a ++ b) := by
  apply ByteArray.ext
  simp [bs, ByteArray.data_append]

/-- The library's table of powers lies in memory. -/
def Tab (w : World) : Prop := Lib.TabIs Tryz.prog w "internal/strconv.uint64pow10" .u64 Lib.pow10Tab

theorem tab_keep {w w' : World} (h : Tab w) (hb : Below w.heap.size w w') : Tab w' :=
  Joins.tab_stays (show Tryz.prog.globalNamed "internal/strconv.uint64pow10" = some 8 by kernel_rfl) h hb (Nat.le_refl _)

theorem itoa_w (n : Int) (w : World) (ht : Tab w) (h : n.natAbs ≤ 16777216) :
    Calls Tryz.prog 101 #[.int .i64 n] w fun e w' => e = .returned (.string (bs (itoa n))) ∧ Below w.heap.size w w' := by
  refine (Tryz.strconv_Itoa n (by omega) (by omega) w ht).mono ?_
  rintro e w' ⟨rfl, k, os, rfl⟩
  exact ⟨rfl, Lib.below_grow _ _ (Nat.le_refl _) k os⟩

set_option maxHeartbeats 1000000 in
theorem text_a (p : Int) (w : World) (ht : Tab w) (hp : p.natAbs ≤ 16777216) :
    Calls Tryz.prog 68 #[.complex .f64 (fl p) (fl 0)] w fun e w' => e = .returned (.tuple #[.string (bs (itoa p)), .int .i64 0]) ∧ Below w.heap.size w w' := by
  go_enter Tryz.func68, Tryz.ntmps68
  go_wp2_with fail
  refine (parts_any p 0 _ hp (by decide)).mono ?_
  rintro e w' ⟨rfl, rfl⟩
  go_wp2_with fail
  refine (itoa_w p _ ht hp).mono ?_
  rintro e w1 ⟨rfl, hb⟩
  go_wp2_with fail
  go_ret2
  exact ⟨rfl, hb⟩

set_option maxHeartbeats 1000000 in
theorem text_b (q : Int) (w : World) (ht : Tab w) (h0 : ¬ q = 0) (hq : q.natAbs ≤ 16777216) :
    Calls Tryz.prog 68 #[.complex .f64 (fl 0) (fl q)] w fun e w' => e = .returned (.tuple #[.string (bs (itoa q ++ [105])), .int .i64 0]) ∧ Below w.heap.size w w' := by
  have hz := (itoa_len hq).2
  have hsz : (bs (itoa q)).size ≤ 9 := by rw [bs_size]; exact hz
  clear hz
  go_enter Tryz.func68, Tryz.ntmps68
  go_wp2_with fail
  refine (parts_any 0 q _ (by decide) hq).mono ?_
  rintro e w' ⟨rfl, rfl⟩
  go_wp2_with fail
  refine (itoa_w q _ ht hq).mono ?_
  rintro e w1 ⟨rfl, hb⟩
  go_wp2_with fail
  go_ret2
  refine ⟨?_, hb⟩
  rw [← bs_app]; rfl

set_option maxHeartbeats 1000000 in
theorem text_c (p q : Int) (w : World) (ht : Tab w) (h0 : ¬ p = 0) (h1 : 0 < q) (hp : p.natAbs ≤ 16777216) (hq : q.natAbs ≤ 16777216) :
    Calls Tryz.prog 68 #[.complex .f64 (fl p) (fl q)] w fun e w' => e = .returned (.tuple #[.string (bs (itoa p ++ [43] ++ (itoa q ++ [105]))), .int .i64 0]) ∧ Below w.heap.size w w' := by
  have hz := (itoa_len hq).2
  have hy := (itoa_len hp).2
  have hsz : (bs (itoa q)).size ≤ 9 := by rw [bs_size]; exact hz
  have hsy : (bs (itoa p)).size ≤ 9 := by rw [bs_size]; exact hy
  have hq0 : ¬ q = 0 := by omega
  clear hz hy
  go_enter Tryz.func68, Tryz.ntmps68
  go_wp2_with fail
  refine (parts_any p q _ hp hq).mono ?_
  rintro e w' ⟨rfl, rfl⟩
  go_wp2_with fail
  refine (itoa_w q _ ht hq).mono ?_
  rintro e w1 ⟨rfl, hb⟩
  have ht1 := tab_keep ht hb
  go_wp2_with fail
  refine (itoa_w p _ ht1 hp).mono ?_
  rintro e w2 ⟨rfl, hb2⟩
  go_wp2_with fail
  go_ret2
  refine ⟨?_, hb.trans (hb2.mono hb.size)⟩
  rw [← bs_app, ← bs_app, ← bs_app]; rfl

set_option maxHeartbeats 1000000 in
theorem text_d (p q : Int) (w : World) (ht : Tab w) (h0 : ¬ p = 0) (h1 : q < 0) (hp : p.natAbs ≤ 16777216) (hq : q.natAbs ≤ 16777216) :
    Calls Tryz.prog 68 #[.complex .f64 (fl p) (fl q)] w fun e w' => e = .returned (.tuple #[.string (bs (itoa p ++ (itoa q ++ [105]))), .int .i64 0]) ∧ Below w.heap.size w w' := by
  have hz := (itoa_len hq).2
  have hy := (itoa_len hp).2
  have hsz : (bs (itoa q)).size ≤ 9 := by rw [bs_size]; exact hz
  have hsy : (bs (itoa p)).size ≤ 9 := by rw [bs_size]; exact hy
  have hq0 : ¬ q = 0 := by omega
  clear hz hy
  go_enter Tryz.func68, Tryz.ntmps68
  go_wp2_with fail
  refine (parts_any p q _ hp hq).mono ?_
  rintro e w' ⟨rfl, rfl⟩
  go_wp2_with fail
  refine (itoa_w q _ ht hq).mono ?_
  rintro e w1 ⟨rfl, hb⟩
  have ht1 := tab_keep ht hb
  go_wp2_with fail
  refine (itoa_w p _ ht1 hp).mono ?_
  rintro e w2 ⟨rfl, hb2⟩
  go_wp2_with fail
  go_ret2
  refine ⟨?_, hb.trans (hb2.mono hb.size)⟩
  rw [← bs_app, ← bs_app]; rfl

theorem text_w (p q : Int) (w : World) (ht : Tab w) (hp : p.natAbs ≤ 16777216) (hq : q.natAbs ≤ 16777216) :
    Calls Tryz.prog 68 #[.complex .f64 (fl p) (fl q)] w fun e w' => e = .returned (.tuple #[.string (bs (txt p q)), .int .i64 0]) ∧ Below w.heap.size w w' := by
  unfold txt
  by_cases h0 : q = 0
  · rw [if_pos h0]; subst h0; exact text_a p w ht hp
  · rw [if_neg h0]
    by_cases h1 : p = 0
    · rw [if_pos h1]; subst h1; exact text_b q w ht h0 hq
    · rw [if_neg h1]
      by_cases h2 : 0 < q
      · rw [if_pos h2]; exact text_c p q w ht h1 h2 hp hq
      · rw [if_neg h2]; exact text_d p q w ht h1 (by omega) hp hq

theorem bs_extract (l : List UInt8) (a b : Nat) : (bs l).extract a b = bs ((l.drop a).take (b - a)) := by
  apply ByteArray.ext
  apply Array.ext'
  have := Lib.extract_toList (bs l) a b
  rw [bs_list] at this
  rw [Lib.toList_data] at this
  rw [this, bs_list]

end Go.Proofs.YtflennpocpbbpaaGreatDoor
