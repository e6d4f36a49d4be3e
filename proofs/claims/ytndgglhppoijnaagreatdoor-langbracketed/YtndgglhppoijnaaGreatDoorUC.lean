/-
  4 texts in one: what each proves stands at its head.
-/
import Derived.Shelf.Small.Utf8
import Derived.Shelf.Small.Strs
import Derived.Shelf.Small.Wraps
import Derived.Shelf.Strconv.Atoi
import Derived.Shelf.Strconv.Itoa0
import Derived.Shelf.Strconv.Itoa1
import Derived.Shelf.LaysM
import Derived.Shelf.Strconv.Itoa2
import Derived.Shelf.Strconv.Itoa3
import Derived.Shelf.Strconv.AtoiErrFast
import Derived.Shelf.Strconv.ParseIntEmpty
import Derived.Shelf.Strconv.AtoiFail
import Derived.Shelf.Strconv.Clone
import Derived.Shelf.Strconv.SyntaxError
import Derived.Shelf.LaysC
import Derived.Shelf.Strconv.ToError
import Derived.Shelf.Strconv.Lower
import Derived.Shelf.Strconv.ParseUint10
import Derived.Shelf.Strconv.ParseUint10Empty
import Derived.Shelf.Strconv.ParseUint10Any
import Derived.Shelf.Strconv.ParseInt10
import Derived.Shelf.Strconv.AtoiLong
import Derived.Shelf.Strconv.AtoiInnerAll
import Derived.Shelf.Strconv.RangeError
import Derived.Shelf.Strconv.ToErrorRange
import Derived.Shelf.Strconv.AtoiAll
import Derived.Shelf.Strconv.ErrVarAll
import Derived.Shelf.Strings.Search1
import Derived.Shelf.Strings.Prefix
import Derived.Shelf.Strings.Runes
import Derived.Shelf.Strings.IndexAny
import Derived.Shelf.Strings.AsciiSet
import Derived.Shelf.Unicode.DecodeSlow
import Derived.Shelf.Unicode.DecodeAny
import Derived.Shelf.Unicode.DecodeLast
import Derived.Test.YtndgglhppoijnaaGreatDoorProg
import Derived.Lib.Atoi
import Derived.Lib.ItoaMem
import Derived.Lib.Strings
import Derived.Test.YtndgglhppoijnaaGreatDoorUB
import Derived.Deep.LoopGhost
import Derived.Lib.Builder
import Derived.Deep.WholeRow
import Derived.Lib.AppendIntMem
import Derived.Lib.AtoiErrMem
import Derived.Lib.SmallJoins
import Derived.Deep.QuietTactic
import Derived.BigQuiet
/-
  Contracts of Go's library at this seat's program, laid by the guide's shelf in plain words.
-/
namespace Go.Proofs
open Go.Shelf
def Tryz.lays137_ren : Go.Shelf.Ren := ⟨fun | 137 => 131 | 217 => 144 | 266 => 157 | n => n, fun | 9 => 9 | 5 => 5 | 3 => 3 | n => n, fun | n => n⟩
theorem Tryz.lays137 : Go.Proofs.Lays.n137 Tryz.prog Tryz.lays137_ren := {
  mixed := by kernel_rfl
  f137 := Tryz.func131.trans (congrArg some (by kernel_rfl))
  f217 := Tryz.func144.trans (congrArg some (by kernel_rfl))
  f266 := Tryz.func157.trans (congrArg some (by kernel_rfl))
  t3 := Tryz.underlying3
  a3 := Tryz.isAgg3
  z3 := Tryz.sizeOf3
  v3 := Tryz.zeroValue3
  t5 := Tryz.underlying5
  a5 := Tryz.isAgg5
  z5 := Tryz.sizeOf5
  v5 := Tryz.zeroValue5
  t9 := Tryz.underlying9
  a9 := Tryz.isAgg9
  z9 := Tryz.sizeOf9
  v9 := Tryz.zeroValue9 }
open Go.RowKit in
theorem Tryz.strings_IndexByte (s : ByteArray) (c : Int) (w : World) :
    Calls Tryz.prog 131 #[.string s, .int .u8 c] w fun e w' => e = .returned (.int .i64 (Lib.indexByte s.data.toList c.toNat.toUInt8)) ∧ w' = w := Any.strings_IndexByte Tryz.lays137 s c w
def Tryz.lays104_ren : Go.Shelf.Ren := ⟨fun | 104 => 97 | 211 => 115 | 207 => 130 | n => n, fun | 9 => 9 | 4 => 4 | 24 => 141 | 3 => 3 | n => n, fun | n => n⟩
theorem Tryz.lays104 : Go.Proofs.Lays.n104 Tryz.prog Tryz.lays104_ren := {
  mixed := by kernel_rfl
  f104 := Tryz.func97.trans (congrArg some (by kernel_rfl))
  f207 := Tryz.func130.trans (congrArg some (by kernel_rfl))
  f211 := Tryz.func115.trans (congrArg some (by kernel_rfl))
  t3 := Tryz.underlying3
  a3 := Tryz.isAgg3
  z3 := Tryz.sizeOf3
  v3 := Tryz.zeroValue3
  t4 := Tryz.underlying4
  a4 := Tryz.isAgg4
  z4 := Tryz.sizeOf4
  v4 := Tryz.zeroValue4
  t9 := Tryz.underlying9
  a9 := Tryz.isAgg9
  z9 := Tryz.sizeOf9
  v9 := Tryz.zeroValue9
  t24 := Tryz.underlying141
  a24 := Tryz.isAgg141
  z24 := Tryz.sizeOf141
  v24 := Tryz.zeroValue141 }
open Go.RowKit in
theorem Tryz.strings_CutSuffix (s p : ByteArray) (w : World) (hs : s.size ≤ 9223372036854775807) :
    Calls Tryz.prog 97 #[.string s, .string p] w fun e w' => e = .returned (.tuple #[.string ⟨(Lib.trimSuffix s.data.toList p.data.toList).toArray⟩, .bool (Lib.hasSuffix s.data.toList p.data.toList)]) ∧ w' = w := Any.strings_CutSuffix Tryz.lays104 s p w hs
def Tryz.lays172_ren : Go.Shelf.Ren := ⟨fun | 172 => 68 | 244 => 99 | 245 => 100 | 247 => 121 | 279 => 122 | 280 => 123 | 281 => 124 | 282 => 125 | 287 => 137 | 316 => 138 | 171 => 102 | 205 => 139 | 321 => 146 | 322 => 147 | 243 => 127 | 246 => 141 | 283 => 151 | 284 => 152 | 285 => 153 | 286 => 154 | 129 => 162 | 317 => 161 | 318 => 163 | 319 => 164 | 320 => 165 | 337 => 174 | 338 => 175 | n => n, fun | 9 => 9 | 3 => 3 | 75 => 98 | 76 => 99 | 4 => 4 | 5 => 5 | 167 => 160 | 37 => 22 | 0 => 0 | 85 => 161 | 2 => 2 | 168 => 163 | 53 => 173 | 175 => 174 | 46 => 171 | 210 => 178 | 127 => 118 | 145 => 185 | 143 => 183 | 21 => 21 | 171 => 187 | 173 => 190 | 212 => 198 | 51 => 199 | 20 => 20 | 213 => 200 | 232 => 208 | 233 => 209 | 80 => 82 | n => n, fun | 15 => 2 | 16 => 3 | 17 => 8 | 18 => 9 | 19 => 10 | n => n⟩
theorem Tryz.lays172 : Go.Proofs.Lays.n172 Tryz.prog Tryz.lays172_ren := {
  mixed := by kernel_rfl
  f129 := Tryz.func162.trans (congrArg some (by kernel_rfl))
  f171 := Tryz.func102.trans (congrArg some (by kernel_rfl))
  f172 := Tryz.func68.trans (congrArg some (by kernel_rfl))
  f205 := Tryz.func139.trans (congrArg some (by kernel_rfl))
  f243 := Tryz.func127.trans (congrArg some (by kernel_rfl))
  f244 := Tryz.func99.trans (congrArg some (by kernel_rfl))
  f245 := Tryz.func100.trans (congrArg some (by kernel_rfl))
  f246 := Tryz.func141.trans (congrArg some (by kernel_rfl))
  f247 := Tryz.func121.trans (congrArg some (by kernel_rfl))
  f279 := Tryz.func122.trans (congrArg some (by kernel_rfl))
  f280 := Tryz.func123.trans (congrArg some (by kernel_rfl))
  f281 := Tryz.func124.trans (congrArg some (by kernel_rfl))
  f282 := Tryz.func125.trans (congrArg some (by kernel_rfl))
  f283 := Tryz.func151.trans (congrArg some (by kernel_rfl))
  f284 := Tryz.func152.trans (congrArg some (by kernel_rfl))
  f285 := Tryz.func153.trans (congrArg some (by kernel_rfl))
  f286 := Tryz.func154.trans (congrArg some (by kernel_rfl))
  f287 := Tryz.func137.trans (congrArg some (by kernel_rfl))
  f316 := Tryz.func138.trans (congrArg some (by kernel_rfl))
  f317 := Tryz.func161.trans (congrArg some (by kernel_rfl))
  f318 := Tryz.func163.trans (congrArg some (by kernel_rfl))
  f319 := Tryz.func164.trans (congrArg some (by kernel_rfl))
  f320 := Tryz.func165.trans (congrArg some (by kernel_rfl))
  f321 := Tryz.func146.trans (congrArg some (by kernel_rfl))
  f322 := Tryz.func147.trans (congrArg some (by kernel_rfl))
  f337 := Tryz.func174.trans (congrArg some (by kernel_rfl))
  f338 := Tryz.func175.trans (congrArg some (by kernel_rfl))
  t0 := Tryz.underlying0
  a0 := Tryz.isAgg0
  z0 := Tryz.sizeOf0
  v0 := Tryz.zeroValue0
  t2 := Tryz.underlying2
  a2 := Tryz.isAgg2
  z2 := Tryz.sizeOf2
  v2 := Tryz.zeroValue2
  t3 := Tryz.underlying3
  a3 := Tryz.isAgg3
  z3 := Tryz.sizeOf3
  v3 := Tryz.zeroValue3
  t4 := Tryz.underlying4
  a4 := Tryz.isAgg4
  z4 := Tryz.sizeOf4
  v4 := Tryz.zeroValue4
  t5 := Tryz.underlying5
  a5 := Tryz.isAgg5
  z5 := Tryz.sizeOf5
  v5 := Tryz.zeroValue5
  t9 := Tryz.underlying9
  a9 := Tryz.isAgg9
  z9 := Tryz.sizeOf9
  v9 := Tryz.zeroValue9
  t20 := Tryz.underlying20
  a20 := Tryz.isAgg20
  z20 := Tryz.sizeOf20
  v20 := Tryz.zeroValue20
  t21 := Tryz.underlying21
  a21 := Tryz.isAgg21
  z21 := Tryz.sizeOf21
  v21 := Tryz.zeroValue21
  t37 := Tryz.underlying22
  a37 := Tryz.isAgg22
  z37 := Tryz.sizeOf22
  v37 := Tryz.zeroValue22
  t46 := Tryz.underlying171
  a46 := Tryz.isAgg171
  z46 := Tryz.sizeOf171
  v46 := Tryz.zeroValue171
  t51 := Tryz.underlying199
  a51 := Tryz.isAgg199
  z51 := Tryz.sizeOf199
  v51 := Tryz.zeroValue199
  t53 := Tryz.underlying173
  a53 := Tryz.isAgg173
  z53 := Tryz.sizeOf173
  v53 := Tryz.zeroValue173
  t75 := Tryz.underlying98
  a75 := Tryz.isAgg98
  z75 := Tryz.sizeOf98
  v75 := Tryz.zeroValue98
  t76 := Tryz.underlying99
  a76 := Tryz.isAgg99
  z76 := Tryz.sizeOf99
  v76 := Tryz.zeroValue99
  t85 := Tryz.underlying161
  a85 := Tryz.isAgg161
  z85 := Tryz.sizeOf161
  v85 := Tryz.zeroValue161
  t127 := Tryz.underlying118
  a127 := Tryz.isAgg118
  z127 := Tryz.sizeOf118
  v127 := Tryz.zeroValue118
  t143 := Tryz.underlying183
  a143 := Tryz.isAgg183
  z143 := Tryz.sizeOf183
  v143 := Tryz.zeroValue183
  t145 := Tryz.underlying185
  a145 := Tryz.isAgg185
  z145 := Tryz.sizeOf185
  v145 := Tryz.zeroValue185
  t167 := Tryz.underlying160
  a167 := Tryz.isAgg160
  z167 := Tryz.sizeOf160
  v167 := Tryz.zeroValue160
  t168 := Tryz.underlying163
  a168 := Tryz.isAgg163
  z168 := Tryz.sizeOf163
  v168 := Tryz.zeroValue163
  t171 := Tryz.underlying187
  a171 := Tryz.isAgg187
  z171 := Tryz.sizeOf187
  v171 := Tryz.zeroValue187
  t173 := Tryz.underlying190
  a173 := Tryz.isAgg190
  z173 := Tryz.sizeOf190
  v173 := Tryz.zeroValue190
  t175 := Tryz.underlying174
  a175 := Tryz.isAgg174
  z175 := Tryz.sizeOf174
  v175 := Tryz.zeroValue174
  t210 := Tryz.underlying178
  a210 := Tryz.isAgg178
  z210 := Tryz.sizeOf178
  v210 := Tryz.zeroValue178
  t212 := Tryz.underlying198
  a212 := Tryz.isAgg198
  z212 := Tryz.sizeOf198
  v212 := Tryz.zeroValue198
  t213 := Tryz.underlying200
  a213 := Tryz.isAgg200
  z213 := Tryz.sizeOf200
  t232 := Tryz.underlying208
  a232 := Tryz.isAgg208
  z232 := Tryz.sizeOf208
  v232 := Tryz.zeroValue208
  t233 := Tryz.underlying209
  a233 := Tryz.isAgg209
  z233 := Tryz.sizeOf209
  v233 := Tryz.zeroValue209
  g15 := by kernel_rfl
  g16 := by kernel_rfl
  g17 := by kernel_rfl
  g18 := by kernel_rfl
  g19 := by kernel_rfl }
open Go.RowKit in
theorem Tryz.strconv_Atoi (s : ByteArray) (n : Int) (hl : s.size ≤ 18) (h : Lib.atoi s.data.toList = some n) (w : World) :
    Calls Tryz.prog 68 #[.string s] w fun e w' => e = .returned (.tuple #[.int .i64 n, .nilIface]) ∧ ∃ t, w' = Lib.bytesWorld w 5 t := Any.strconv_Atoi Tryz.lays172 s n hl h w
def Tryz.laysM171_ren : Go.Shelf.Ren := ⟨fun | 171 => 102 | 243 => 127 | 246 => 141 | 283 => 151 | 284 => 152 | 285 => 153 | 286 => 154 | 129 => 162 | 317 => 161 | 318 => 163 | 319 => 164 | 320 => 165 | 337 => 174 | 338 => 175 | n => n, fun | 3 => 3 | 9 => 9 | 2 => 2 | 4 => 4 | 171 => 187 | 0 => 0 | 53 => 173 | 37 => 22 | 5 => 5 | 173 => 190 | 212 => 198 | 51 => 199 | 20 => 20 | 213 => 200 | 46 => 171 | 232 => 208 | 233 => 209 | n => n, fun | 17 => 8 | 18 => 9 | 19 => 10 | n => n⟩
theorem Tryz.laysM171 : Go.Proofs.LaysM.n171 Tryz.prog Tryz.laysM171_ren := {
  mixed := by kernel_rfl
  f129 := Tryz.func162.trans (congrArg some (by kernel_rfl))
  f171 := Tryz.func102.trans (congrArg some (by kernel_rfl))
  f243 := Tryz.func127.trans (congrArg some (by kernel_rfl))
  f246 := Tryz.func141.trans (congrArg some (by kernel_rfl))
  f283 := Tryz.func151.trans (congrArg some (by kernel_rfl))
  f284 := Tryz.func152.trans (congrArg some (by kernel_rfl))
  f285 := Tryz.func153.trans (congrArg some (by kernel_rfl))
  f286 := Tryz.func154.trans (congrArg some (by kernel_rfl))
  f317 := Tryz.func161.trans (congrArg some (by kernel_rfl))
  f318 := Tryz.func163.trans (congrArg some (by kernel_rfl))
  f319 := Tryz.func164.trans (congrArg some (by kernel_rfl))
  f320 := Tryz.func165.trans (congrArg some (by kernel_rfl))
  f337 := Tryz.func174.trans (congrArg some (by kernel_rfl))
  f338 := Tryz.func175.trans (congrArg some (by kernel_rfl))
  t0 := Tryz.underlying0
  a0 := Tryz.isAgg0
  z0 := Tryz.sizeOf0
  v0 := Tryz.zeroValue0
  t2 := Tryz.underlying2
  a2 := Tryz.isAgg2
  z2 := Tryz.sizeOf2
  v2 := Tryz.zeroValue2
  t3 := Tryz.underlying3
  a3 := Tryz.isAgg3
  z3 := Tryz.sizeOf3
  v3 := Tryz.zeroValue3
  t4 := Tryz.underlying4
  a4 := Tryz.isAgg4
  z4 := Tryz.sizeOf4
  v4 := Tryz.zeroValue4
  t5 := Tryz.underlying5
  a5 := Tryz.isAgg5
  z5 := Tryz.sizeOf5
  v5 := Tryz.zeroValue5
  t9 := Tryz.underlying9
  a9 := Tryz.isAgg9
  z9 := Tryz.sizeOf9
  v9 := Tryz.zeroValue9
  t20 := Tryz.underlying20
  a20 := Tryz.isAgg20
  z20 := Tryz.sizeOf20
  v20 := Tryz.zeroValue20
  t37 := Tryz.underlying22
  a37 := Tryz.isAgg22
  z37 := Tryz.sizeOf22
  v37 := Tryz.zeroValue22
  t46 := Tryz.underlying171
  a46 := Tryz.isAgg171
  z46 := Tryz.sizeOf171
  v46 := Tryz.zeroValue171
  t51 := Tryz.underlying199
  a51 := Tryz.isAgg199
  z51 := Tryz.sizeOf199
  v51 := Tryz.zeroValue199
  t53 := Tryz.underlying173
  a53 := Tryz.isAgg173
  z53 := Tryz.sizeOf173
  v53 := Tryz.zeroValue173
  t171 := Tryz.underlying187
  a171 := Tryz.isAgg187
  z171 := Tryz.sizeOf187
  v171 := Tryz.zeroValue187
  t173 := Tryz.underlying190
  a173 := Tryz.isAgg190
  z173 := Tryz.sizeOf190
  v173 := Tryz.zeroValue190
  t212 := Tryz.underlying198
  a212 := Tryz.isAgg198
  z212 := Tryz.sizeOf198
  v212 := Tryz.zeroValue198
  t213 := Tryz.underlying200
  a213 := Tryz.isAgg200
  z213 := Tryz.sizeOf200
  t232 := Tryz.underlying208
  a232 := Tryz.isAgg208
  z232 := Tryz.sizeOf208
  v232 := Tryz.zeroValue208
  t233 := Tryz.underlying209
  a233 := Tryz.isAgg209
  z233 := Tryz.sizeOf209
  v233 := Tryz.zeroValue209
  g17 := by kernel_rfl
  g18 := by kernel_rfl
  g19 := by kernel_rfl
  i0 := by kernel_rfl
  i2 := by kernel_rfl
  i3 := by kernel_rfl
  i4 := by kernel_rfl
  i5 := by kernel_rfl
  i9 := by kernel_rfl
  i20 := by kernel_rfl
  i37 := by kernel_rfl
  i46 := by kernel_rfl
  i51 := by kernel_rfl
  i53 := by kernel_rfl
  i171 := by kernel_rfl
  i173 := by kernel_rfl
  i212 := by kernel_rfl
  i232 := by kernel_rfl
  i233 := by kernel_rfl
  m17 := by kernel_rfl
  m18 := by kernel_rfl
  m19 := by kernel_rfl }
open Go.RowKit Go.Sort Go.Lib in
theorem Tryz.strconv_Itoa (n : Int) (h0 : -9223372036854775808 ≤ n) (h1 : n ≤ 9223372036854775807) (w : World) (htab : Lib.TabIs Tryz.prog w "internal/strconv.uint64pow10" .u64 Lib.pow10Tab) :
    Calls Tryz.prog 102 #[.int .i64 n] w fun e w' => e = .returned (.string ⟨(Lib.itoa n).toArray⟩) ∧ ∃ k os, w' = grow (w.drewN k) os := Any.strconv_Itoa Tryz.laysM171 n h0 h1 w htab
def Tryz.laysC172_ren : Go.Shelf.Ren := ⟨fun | 172 => 68 | 244 => 99 | 245 => 100 | 247 => 121 | 279 => 122 | 280 => 123 | 281 => 124 | 282 => 125 | 287 => 137 | 316 => 138 | 171 => 102 | 205 => 139 | 321 => 146 | 322 => 147 | 243 => 127 | 246 => 141 | 283 => 151 | 284 => 152 | 285 => 153 | 286 => 154 | 129 => 162 | 317 => 161 | 318 => 163 | 319 => 164 | 320 => 165 | 337 => 174 | 338 => 175 | n => n, fun | 9 => 9 | 3 => 3 | 75 => 98 | 76 => 99 | 4 => 4 | 5 => 5 | 167 => 160 | 37 => 22 | 0 => 0 | 85 => 161 | 2 => 2 | 168 => 163 | 53 => 173 | 175 => 174 | 46 => 171 | 210 => 178 | 127 => 118 | 145 => 185 | 143 => 183 | 21 => 21 | 171 => 187 | 173 => 190 | 212 => 198 | 51 => 199 | 20 => 20 | 213 => 200 | 232 => 208 | 233 => 209 | 80 => 82 | n => n, fun | 15 => 2 | 16 => 3 | 17 => 8 | 18 => 9 | 19 => 10 | n => n⟩
theorem Tryz.laysC172 : Go.Proofs.LaysC.n172 Tryz.prog Tryz.laysC172_ren := {
  mixed := by kernel_rfl
  f129 := Tryz.func162.trans (congrArg some (by kernel_rfl))
  f171 := Tryz.func102.trans (congrArg some (by kernel_rfl))
  f172 := Tryz.func68.trans (congrArg some (by kernel_rfl))
  f205 := Tryz.func139.trans (congrArg some (by kernel_rfl))
  f243 := Tryz.func127.trans (congrArg some (by kernel_rfl))
  f244 := Tryz.func99.trans (congrArg some (by kernel_rfl))
  f245 := Tryz.func100.trans (congrArg some (by kernel_rfl))
  f246 := Tryz.func141.trans (congrArg some (by kernel_rfl))
  f247 := Tryz.func121.trans (congrArg some (by kernel_rfl))
  f279 := Tryz.func122.trans (congrArg some (by kernel_rfl))
  f280 := Tryz.func123.trans (congrArg some (by kernel_rfl))
  f281 := Tryz.func124.trans (congrArg some (by kernel_rfl))
  f282 := Tryz.func125.trans (congrArg some (by kernel_rfl))
  f283 := Tryz.func151.trans (congrArg some (by kernel_rfl))
  f284 := Tryz.func152.trans (congrArg some (by kernel_rfl))
  f285 := Tryz.func153.trans (congrArg some (by kernel_rfl))
  f286 := Tryz.func154.trans (congrArg some (by kernel_rfl))
  f287 := Tryz.func137.trans (congrArg some (by kernel_rfl))
  f316 := Tryz.func138.trans (congrArg some (by kernel_rfl))
  f317 := Tryz.func161.trans (congrArg some (by kernel_rfl))
  f318 := Tryz.func163.trans (congrArg some (by kernel_rfl))
  f319 := Tryz.func164.trans (congrArg some (by kernel_rfl))
  f320 := Tryz.func165.trans (congrArg some (by kernel_rfl))
  f321 := Tryz.func146.trans (congrArg some (by kernel_rfl))
  f322 := Tryz.func147.trans (congrArg some (by kernel_rfl))
  f337 := Tryz.func174.trans (congrArg some (by kernel_rfl))
  f338 := Tryz.func175.trans (congrArg some (by kernel_rfl))
  t0 := Tryz.underlying0
  a0 := Tryz.isAgg0
  z0 := Tryz.sizeOf0
  v0 := Tryz.zeroValue0
  t2 := Tryz.underlying2
  a2 := Tryz.isAgg2
  z2 := Tryz.sizeOf2
  v2 := Tryz.zeroValue2
  t3 := Tryz.underlying3
  a3 := Tryz.isAgg3
  z3 := Tryz.sizeOf3
  v3 := Tryz.zeroValue3
  t4 := Tryz.underlying4
  a4 := Tryz.isAgg4
  z4 := Tryz.sizeOf4
  v4 := Tryz.zeroValue4
  t5 := Tryz.underlying5
  a5 := Tryz.isAgg5
  z5 := Tryz.sizeOf5
  v5 := Tryz.zeroValue5
  t9 := Tryz.underlying9
  a9 := Tryz.isAgg9
  z9 := Tryz.sizeOf9
  v9 := Tryz.zeroValue9
  t20 := Tryz.underlying20
  a20 := Tryz.isAgg20
  z20 := Tryz.sizeOf20
  v20 := Tryz.zeroValue20
  t21 := Tryz.underlying21
  a21 := Tryz.isAgg21
  z21 := Tryz.sizeOf21
  v21 := Tryz.zeroValue21
  t37 := Tryz.underlying22
  a37 := Tryz.isAgg22
  z37 := Tryz.sizeOf22
  v37 := Tryz.zeroValue22
  t46 := Tryz.underlying171
  a46 := Tryz.isAgg171
  z46 := Tryz.sizeOf171
  v46 := Tryz.zeroValue171
  t51 := Tryz.underlying199
  a51 := Tryz.isAgg199
  z51 := Tryz.sizeOf199
  v51 := Tryz.zeroValue199
  t53 := Tryz.underlying173
  a53 := Tryz.isAgg173
  z53 := Tryz.sizeOf173
  v53 := Tryz.zeroValue173
  t75 := Tryz.underlying98
  a75 := Tryz.isAgg98
  z75 := Tryz.sizeOf98
  v75 := Tryz.zeroValue98
  t76 := Tryz.underlying99
  a76 := Tryz.isAgg99
  z76 := Tryz.sizeOf99
  v76 := Tryz.zeroValue99
  t85 := Tryz.underlying161
  a85 := Tryz.isAgg161
  z85 := Tryz.sizeOf161
  v85 := Tryz.zeroValue161
  t127 := Tryz.underlying118
  a127 := Tryz.isAgg118
  z127 := Tryz.sizeOf118
  v127 := Tryz.zeroValue118
  t143 := Tryz.underlying183
  a143 := Tryz.isAgg183
  z143 := Tryz.sizeOf183
  v143 := Tryz.zeroValue183
  t145 := Tryz.underlying185
  a145 := Tryz.isAgg185
  z145 := Tryz.sizeOf185
  v145 := Tryz.zeroValue185
  t167 := Tryz.underlying160
  a167 := Tryz.isAgg160
  z167 := Tryz.sizeOf160
  v167 := Tryz.zeroValue160
  t168 := Tryz.underlying163
  a168 := Tryz.isAgg163
  z168 := Tryz.sizeOf163
  v168 := Tryz.zeroValue163
  t171 := Tryz.underlying187
  a171 := Tryz.isAgg187
  z171 := Tryz.sizeOf187
  v171 := Tryz.zeroValue187
  t173 := Tryz.underlying190
  a173 := Tryz.isAgg190
  z173 := Tryz.sizeOf190
  v173 := Tryz.zeroValue190
  t175 := Tryz.underlying174
  a175 := Tryz.isAgg174
  z175 := Tryz.sizeOf174
  v175 := Tryz.zeroValue174
  t210 := Tryz.underlying178
  a210 := Tryz.isAgg178
  z210 := Tryz.sizeOf178
  v210 := Tryz.zeroValue178
  t212 := Tryz.underlying198
  a212 := Tryz.isAgg198
  z212 := Tryz.sizeOf198
  v212 := Tryz.zeroValue198
  t213 := Tryz.underlying200
  a213 := Tryz.isAgg200
  z213 := Tryz.sizeOf200
  t232 := Tryz.underlying208
  a232 := Tryz.isAgg208
  z232 := Tryz.sizeOf208
  v232 := Tryz.zeroValue208
  t233 := Tryz.underlying209
  a233 := Tryz.isAgg209
  z233 := Tryz.sizeOf209
  v233 := Tryz.zeroValue209
  g15 := by kernel_rfl
  g16 := by kernel_rfl
  g17 := by kernel_rfl
  g18 := by kernel_rfl
  g19 := by kernel_rfl
  t80 := Tryz.underlying82
  a80 := Tryz.isAgg82
  z80 := Tryz.sizeOf82
  v80 := Tryz.zeroValue82
  i0 := by kernel_rfl
  i2 := by kernel_rfl
  i3 := by kernel_rfl
  i4 := by kernel_rfl
  i5 := by kernel_rfl
  i9 := by kernel_rfl
  i20 := by kernel_rfl
  i21 := by kernel_rfl
  i37 := by kernel_rfl
  i46 := by kernel_rfl
  i51 := by kernel_rfl
  i53 := by kernel_rfl
  i75 := by kernel_rfl
  i76 := by kernel_rfl
  i80 := by kernel_rfl
  i85 := by kernel_rfl
  i127 := by kernel_rfl
  i143 := by kernel_rfl
  i145 := by kernel_rfl
  i167 := by kernel_rfl
  i168 := by kernel_rfl
  i171 := by kernel_rfl
  i173 := by kernel_rfl
  i175 := by kernel_rfl
  i210 := by kernel_rfl
  i212 := by kernel_rfl
  i232 := by kernel_rfl
  i233 := by kernel_rfl
  m15 := by kernel_rfl
  m16 := by kernel_rfl
  m17 := by kernel_rfl
  m18 := by kernel_rfl
  m19 := by kernel_rfl
  c0 := by kernel_rfl
  c2 := by kernel_rfl
  c3 := by kernel_rfl
  c4 := by kernel_rfl
  c5 := by kernel_rfl
  c9 := by kernel_rfl
  c20 := by kernel_rfl
  c21 := by kernel_rfl
  c37 := by kernel_rfl
  c46 := by kernel_rfl
  c51 := by kernel_rfl
  c53 := by kernel_rfl
  c75 := by kernel_rfl
  c76 := by kernel_rfl
  c80 := by kernel_rfl
  c85 := by kernel_rfl
  c127 := by kernel_rfl
  c143 := by kernel_rfl
  c145 := by kernel_rfl
  c167 := by kernel_rfl
  c168 := by kernel_rfl
  c171 := by kernel_rfl
  c173 := by kernel_rfl
  c175 := by kernel_rfl
  c210 := by kernel_rfl
  c212 := by kernel_rfl
  c213 := by kernel_rfl
  c232 := by kernel_rfl
  c233 := by kernel_rfl }
open Go.RowKit in
theorem Tryz.strconv_Atoi_ok (s : ByteArray) (hmax : s.size ≤ 9223372036854775806) (v : Int) (h : Lib.atoiAll s.data.toList = .ok v) (w : World) :
    Calls Tryz.prog 68 #[.string s] w fun e w' => e = .returned (.tuple #[.int .i64 v, .nilIface]) ∧ (w' = w ∨ ∃ t, w' = Lib.bytesWorld w 5 t) := Any.strconv_Atoi_ok Tryz.laysC172 s hmax v h w
open Go.RowKit in
theorem Tryz.strconv_Atoi_range (s : ByteArray) (hlim : s.size ≤ 281474976710656) (h : Lib.atoiAll s.data.toList = .range) (ev : Value) (w : World) (hv : w.cell? ⟨3, 0, none⟩ = some ev) (hev : ev = .nilIface ∨ ∃ te pe, ev = .iface te pe) :
    Calls Tryz.prog 68 #[.string s] w fun e w' => ∃ N, e = .returned (.tuple #[.int .i64 (Lib.atoiSat s.data.toList), .iface 163 (.pointer (some ⟨N, 0, none⟩))]) ∧ w.heap.size ≤ N ∧ w'.heap[N]? = some (.cells #[.string ⟨#[65, 116, 111, 105]⟩, .string s, ev] 178 (0, 0)) ∧ Below w.heap.size w w' := Any.strconv_Atoi_range Tryz.laysC172 s hlim h ev w hv hev
def Tryz.lays152_ren : Go.Shelf.Ren := ⟨fun | 152 => 116 | 137 => 131 | 119 => 132 | 224 => 133 | 225 => 134 | 217 => 144 | 266 => 157 | n => n, fun | 9 => 9 | 21 => 21 | 3 => 3 | 4 => 4 | 5 => 5 | 0 => 0 | 46 => 171 | n => n, fun | n => n⟩
theorem Tryz.lays152 : Go.Proofs.Lays.n152 Tryz.prog Tryz.lays152_ren := {
  mixed := by kernel_rfl
  f119 := Tryz.func132.trans (congrArg some (by kernel_rfl))
  f137 := Tryz.func131.trans (congrArg some (by kernel_rfl))
  f152 := Tryz.func116.trans (congrArg some (by kernel_rfl))
  f217 := Tryz.func144.trans (congrArg some (by kernel_rfl))
  f224 := Tryz.func133.trans (congrArg some (by kernel_rfl))
  f225 := Tryz.func134.trans (congrArg some (by kernel_rfl))
  f266 := Tryz.func157.trans (congrArg some (by kernel_rfl))
  t0 := Tryz.underlying0
  a0 := Tryz.isAgg0
  z0 := Tryz.sizeOf0
  v0 := Tryz.zeroValue0
  t3 := Tryz.underlying3
  a3 := Tryz.isAgg3
  z3 := Tryz.sizeOf3
  v3 := Tryz.zeroValue3
  t4 := Tryz.underlying4
  a4 := Tryz.isAgg4
  z4 := Tryz.sizeOf4
  v4 := Tryz.zeroValue4
  t5 := Tryz.underlying5
  a5 := Tryz.isAgg5
  z5 := Tryz.sizeOf5
  v5 := Tryz.zeroValue5
  t9 := Tryz.underlying9
  a9 := Tryz.isAgg9
  z9 := Tryz.sizeOf9
  v9 := Tryz.zeroValue9
  t21 := Tryz.underlying21
  a21 := Tryz.isAgg21
  z21 := Tryz.sizeOf21
  v21 := Tryz.zeroValue21
  t46 := Tryz.underlying171
  a46 := Tryz.isAgg171
  z46 := Tryz.sizeOf171
  v46 := Tryz.zeroValue171 }
open Go.RowKit Go.Lib in
theorem Tryz.strings_IndexRune_ascii (s : ByteArray) (r : Int) (w : World) (h0 : 0 ≤ r) (h1 : r < 128) :
    Calls Tryz.prog 116 #[.string s, .int .i32 r] w fun e w' => e = .returned (.int .i64 (Lib.indexByte s.data.toList r.toNat.toUInt8)) ∧ w' = w := Any.strings_IndexRune_ascii Tryz.lays152 s r w h0 h1
def Tryz.lays226_ren : Go.Shelf.Ren := ⟨fun | 226 => 117 | n => n, fun | 3 => 3 | 4 => 4 | n => n, fun | n => n⟩
theorem Tryz.lays226 : Go.Proofs.Lays.n226 Tryz.prog Tryz.lays226_ren := {
  mixed := by kernel_rfl
  f226 := Tryz.func117.trans (congrArg some (by kernel_rfl))
  t3 := Tryz.underlying3
  a3 := Tryz.isAgg3
  z3 := Tryz.sizeOf3
  v3 := Tryz.zeroValue3
  t4 := Tryz.underlying4
  a4 := Tryz.isAgg4
  z4 := Tryz.sizeOf4
  v4 := Tryz.zeroValue4 }
open Go.RowKit Go.Lib in
theorem Tryz.strings_shouldUseASCIISet (n : Int) (w : World) :
    Calls Tryz.prog 117 #[.int .i64 n] w fun e w' => e = .returned (.bool (decide (8 < n))) ∧ w' = w := Any.strings_shouldUseASCIISet Tryz.lays226 n w
def Tryz.lays227_ren : Go.Shelf.Ren := ⟨fun | 227 => 118 | n => n, fun | 9 => 9 | 116 => 155 | 4 => 4 | 0 => 0 | 3 => 3 | 5 => 5 | n => n, fun | n => n⟩
theorem Tryz.lays227 : Go.Proofs.Lays.n227 Tryz.prog Tryz.lays227_ren := {
  mixed := by kernel_rfl
  f227 := Tryz.func118.trans (congrArg some (by kernel_rfl))
  t0 := Tryz.underlying0
  a0 := Tryz.isAgg0
  z0 := Tryz.sizeOf0
  v0 := Tryz.zeroValue0
  t3 := Tryz.underlying3
  a3 := Tryz.isAgg3
  z3 := Tryz.sizeOf3
  v3 := Tryz.zeroValue3
  t4 := Tryz.underlying4
  a4 := Tryz.isAgg4
  z4 := Tryz.sizeOf4
  v4 := Tryz.zeroValue4
  t5 := Tryz.underlying5
  a5 := Tryz.isAgg5
  z5 := Tryz.sizeOf5
  v5 := Tryz.zeroValue5
  t9 := Tryz.underlying9
  a9 := Tryz.isAgg9
  z9 := Tryz.sizeOf9
  v9 := Tryz.zeroValue9
  t116 := Tryz.underlying155
  a116 := Tryz.isAgg155
  z116 := Tryz.sizeOf155 }
open Go.RowKit Go.Lib in
theorem Tryz.strings_makeASCIISet (hv116 : ∀ w, (zeroValue 155).run Tryz.prog w = .ok (.agg (Array.replicate 256 (.bool false))) w) (chars : ByteArray) (w : World) (hs : chars.size < 4294967281) (hascii : ∀ (j : Nat) b, chars.data.toList[j]? = some b → b.toNat < 128) :
    Calls Tryz.prog 118 #[.string chars] w fun e w' => e = .returned (.tuple #[.agg (Lib.setCells chars.data.toList), .bool true]) ∧ w' = w.alloc (.cells (Lib.setCells chars.data.toList) 155) := Any.strings_makeASCIISet Tryz.lays227 hv116 (by kernel_rfl) chars w hs hascii
def Tryz.lays228_ren : Go.Shelf.Ren := ⟨fun | 228 => 119 | n => n, fun | 124 => 172 | 5 => 5 | 4 => 4 | 0 => 0 | 116 => 155 | n => n, fun | n => n⟩
theorem Tryz.lays228 : Go.Proofs.Lays.n228 Tryz.prog Tryz.lays228_ren := {
  mixed := by kernel_rfl
  f228 := Tryz.func119.trans (congrArg some (by kernel_rfl))
  t0 := Tryz.underlying0
  a0 := Tryz.isAgg0
  z0 := Tryz.sizeOf0
  v0 := Tryz.zeroValue0
  t4 := Tryz.underlying4
  a4 := Tryz.isAgg4
  z4 := Tryz.sizeOf4
  v4 := Tryz.zeroValue4
  t5 := Tryz.underlying5
  a5 := Tryz.isAgg5
  z5 := Tryz.sizeOf5
  v5 := Tryz.zeroValue5
  t116 := Tryz.underlying155
  a116 := Tryz.isAgg155
  z116 := Tryz.sizeOf155
  t124 := Tryz.underlying172
  a124 := Tryz.isAgg172
  z124 := Tryz.sizeOf172
  v124 := Tryz.zeroValue172 }
open Go.RowKit Go.Lib in
theorem Tryz.asciiSet_contains (b : Nat) (x : UInt8) (v : Bool) (w : World) (hc : w.cell? ⟨b, x.toNat, none⟩ = some (.bool v)) :
    Calls Tryz.prog 119 #[.pointer (some ⟨b, 0, none⟩), .int .u8 x.toNat] w fun e w' => e = .returned (.bool v) ∧ w' = w := Any.asciiSet_contains Tryz.lays228 b x v w hc
def Tryz.lays271_ren : Go.Shelf.Ren := ⟨fun | 271 => 120 | 120 => 135 | 197 => 136 | 260 => 145 | n => n, fun | 9 => 9 | 21 => 21 | 3 => 3 | 4 => 4 | 5 => 5 | 105 => 158 | 119 => 192 | 0 => 0 | 46 => 171 | 139 => 195 | 138 => 194 | n => n, fun | 3 => 5 | 4 => 6 | n => n⟩
theorem Tryz.lays271 : Go.Proofs.Lays.n271 Tryz.prog Tryz.lays271_ren := {
  mixed := by kernel_rfl
  f120 := Tryz.func135.trans (congrArg some (by kernel_rfl))
  f197 := Tryz.func136.trans (congrArg some (by kernel_rfl))
  f260 := Tryz.func145.trans (congrArg some (by kernel_rfl))
  f271 := Tryz.func120.trans (congrArg some (by kernel_rfl))
  t0 := Tryz.underlying0
  a0 := Tryz.isAgg0
  z0 := Tryz.sizeOf0
  v0 := Tryz.zeroValue0
  t3 := Tryz.underlying3
  a3 := Tryz.isAgg3
  z3 := Tryz.sizeOf3
  v3 := Tryz.zeroValue3
  t4 := Tryz.underlying4
  a4 := Tryz.isAgg4
  z4 := Tryz.sizeOf4
  v4 := Tryz.zeroValue4
  t5 := Tryz.underlying5
  a5 := Tryz.isAgg5
  z5 := Tryz.sizeOf5
  v5 := Tryz.zeroValue5
  t9 := Tryz.underlying9
  a9 := Tryz.isAgg9
  z9 := Tryz.sizeOf9
  v9 := Tryz.zeroValue9
  t21 := Tryz.underlying21
  a21 := Tryz.isAgg21
  z21 := Tryz.sizeOf21
  v21 := Tryz.zeroValue21
  t46 := Tryz.underlying171
  a46 := Tryz.isAgg171
  z46 := Tryz.sizeOf171
  v46 := Tryz.zeroValue171
  t105 := Tryz.underlying158
  a105 := Tryz.isAgg158
  z105 := Tryz.sizeOf158
  v105 := Tryz.zeroValue158
  t119 := Tryz.underlying192
  a119 := Tryz.isAgg192
  z119 := Tryz.sizeOf192
  t138 := Tryz.underlying194
  a138 := Tryz.isAgg194
  z138 := Tryz.sizeOf194
  v138 := Tryz.zeroValue194
  t139 := Tryz.underlying195
  a139 := Tryz.isAgg195
  z139 := Tryz.sizeOf195
  v139 := Tryz.zeroValue195
  g3 := by kernel_rfl
  g4 := by kernel_rfl }
open Go.RowKit Go.Lib in
theorem Tryz.utf8_DecodeLastRuneInString (s : ByteArray) (w : World) (hs : s.size ≤ 9223372036854775807) (hT : Lib.Utf8Tabs 5 6 w) :
    Calls Tryz.prog 120 #[.string s] w fun e w' => e = .returned (.tuple #[.int .i32 (Lib.decodeLastL s.data.toList).1, .int .i64 (Lib.decodeLastL s.data.toList).2]) ∧ Below w.heap.size w w' := Any.utf8_DecodeLastRuneInString Tryz.lays271 s w hs hT
end Go.Proofs
/-
  Numerals and the texts of numbers, as lists of bytes: what is written is read back, and where the last sign stands.
-/
namespace Go.Proofs.YtndgglhppoijnaaGreatDoor
open Go.Lib

/-- Is it a decimal digit? -/
def isDig (b : UInt8) : Prop := 48 ≤ b.toNat ∧ b.toNat ≤ 57

theorem dig_of {d : Nat} (h : d < 10) : (UInt8.ofNat (48 + d)).toNat = 48 + d := by
  rw [UInt8.toNat_ofNat']; omega

theorem decDigits_dig (u : Nat) : ∀ b ∈ decDigits u, isDig b := by
  induction u using Nat.strongRecOn with
  | _ u ih =>
    rw [decDigits]
    split
    · rename_i h
      intro b hb
      rw [List.mem_singleton] at hb
      rw [hb]
      unfold isDig
      rw [dig_of h]; omega
    · intro b hb
      rcases List.mem_append.1 hb with hb | hb
      · exact ih (u / 10) (by omega) b hb
      · rw [List.mem_singleton] at hb
        rw [hb]
        unfold isDig
        rw [dig_of (show u % 10 < 10 by omega)]; omega

theorem decFrom_append (l1 l2 : List UInt8) : ∀ acc, decFrom acc (l1 ++ l2) = (decFrom acc l1).bind fun n => decFrom n l2 := by
  induction l1 with
  | nil => intro acc; rfl
  | cons b r ih =>
    intro acc
    simp only [List.cons_append, decFrom]
    cases digitVal b with
    | none => rfl
    | some d => exact ih _

theorem digitVal_of {d : Nat} (h : d < 10) : digitVal (UInt8.ofNat (48 + d)) = some d := by
  unfold digitVal
  rw [dig_of h, if_pos (by omega)]
  congr 1; omega

theorem decFrom_digits (u : Nat) : ∀ acc, decFrom acc (decDigits u) = some (acc * 10 ^ nDigits u + u) := by
  induction u using Nat.strongRecOn with
  | _ u ih =>
    intro acc
    by_cases h : u < 10
    · rw [decDigits_one h, nDigits_small h]
      simp only [decFrom, digitVal_of h, Nat.pow_one]
    · rw [decDigits, dif_neg h, decFrom_append, ih (u / 10) (by omega), nDigits_big h]
      simp only [Option.bind_some, decFrom, digitVal_of (show u % 10 < 10 by omega)]
      congr 1
      rw [Nat.pow_succ, Nat.add_mul, Nat.mul_assoc]
      omega

theorem decDigits_cons (u : Nat) : ∃ b r, decDigits u = b :: r ∧ isDig b := by
  have hl := decDigits_length u
  have hp := nDigits_pos u
  cases h : decDigits u with
  | nil => rw [h] at hl; simp at hl; omega
  | cons b r => exact ⟨b, r, rfl, decDigits_dig u b (by rw [h]; simp)⟩

theorem decNat_digits (u : Nat) : decNat (decDigits u) = some u := by
  obtain ⟨b, r, h, _⟩ := decDigits_cons u
  unfold decNat
  have e : (decDigits u).isEmpty = false := by rw [h]; rfl
  rw [e]
  simp only [Bool.false_eq_true, if_false]
  rw [decFrom_digits]
  simp

theorem atoi_itoa (n : Int) : atoi (itoa n) = some n := by
  unfold itoa
  split
  · rename_i h
    simp only [atoi]
    rw [if_pos (by decide), decNat_digits]
    simp; omega
  · rename_i h
    obtain ⟨b, r, e, hb⟩ := decDigits_cons n.toNat
    have h0 := decNat_digits n.toNat
    rw [e] at h0 ⊢
    simp only [atoi]
    unfold isDig at hb
    have h1 : (b == 45) = false := by rw [beq_eq_false_iff_ne]; intro hc; rw [hc] at hb; simp at hb
    have h2 : (b == 43) = false := by rw [beq_eq_false_iff_ne]; intro hc; rw [hc] at hb; simp at hb
    rw [h1, h2, h0]
    simp; omega

theorem atoi_plus {n : Int} (h : 0 ≤ n) : atoi (43 :: itoa n) = some n := by
  unfold itoa
  rw [if_neg (by omega)]
  simp only [atoi]
  rw [if_neg (by decide), if_pos (by decide), decNat_digits]
  simp; omega

theorem itoa_zero : itoa 0 = [48] := by
  unfold itoa
  rw [if_neg (by omega)]
  exact decDigits_one (by omega)

/-- How long a numeral within the bounds is. -/
theorem itoa_len {n : Int} (h : n.natAbs ≤ 16777216) : 1 ≤ (itoa n).length ∧ (itoa n).length ≤ 9 := by
  have hd : ∀ u, u ≤ 16777216 → 1 ≤ (decDigits u).length ∧ (decDigits u).length ≤ 8 := by
    intro u hu
    rw [decDigits_length]
    refine ⟨nDigits_pos u, ?_⟩
    apply Decidable.byContradiction
    intro hc
    have h1 : ∀ k u, k < nDigits u → 1 ≤ k → 10 ^ k ≤ u := by
      intro k
      induction k with
      | zero => intro u _ h0; omega
      | succ k ih =>
        intro u hk _
        by_cases hu : u < 10
        · rw [nDigits_small hu] at hk; omega
        · rw [nDigits_big hu] at hk
          by_cases hk0 : k = 0
          · subst hk0; omega
          · have := ih (u / 10) (by omega) (by omega)
            rw [Nat.pow_succ]; omega
    have := h1 8 u (by omega) (by omega)
    omega
  unfold itoa
  split
  · have := hd n.natAbs h
    simp; omega
  · have := hd n.toNat (by omega)
    omega

/-- Where the last sign stands; -1: nowhere. -/
def isSign (b : UInt8) : Bool := b == 43 || b == 45
def lastS : List UInt8 → Int
  | [] => -1
  | b :: r => if 0 ≤ lastS r then lastS r + 1 else if isSign b then 0 else -1

theorem lastS_ge (l : List UInt8) : -1 ≤ lastS l ∧ lastS l < l.length := by
  induction l with
  | nil => simp [lastS]
  | cons b r ih =>
    simp only [lastS]
    split
    · simp; omega
    · split <;> simp <;> omega

theorem lastS_snoc (l : List UInt8) (c : UInt8) : lastS (l ++ [c]) = if isSign c then (l.length : Int) else lastS l := by
  induction l with
  | nil => simp [lastS]
  | cons b r ih =>
    simp only [List.cons_append, lastS, ih]
    by_cases hc : isSign c = true
    · rw [if_pos hc, if_pos hc]
      have : (0 : Int) ≤ r.length := by omega
      rw [if_pos this]
      simp
    · simp [hc]

theorem lastS_digits {l : List UInt8} (h : ∀ b ∈ l, isDig b) : lastS l = -1 := by
  induction l with
  | nil => rfl
  | cons b r ih =>
    have e := ih (fun x hx => h x (List.mem_cons_of_mem _ hx))
    have hb := h b (List.mem_cons_self ..)
    unfold isDig at hb
    have hs : isSign b = false := by
      unfold isSign
      have h1 : (b == 43) = false := by rw [beq_eq_false_iff_ne]; intro hc; rw [hc] at hb; simp at hb
      have h2 : (b == 45) = false := by rw [beq_eq_false_iff_ne]; intro hc; rw [hc] at hb; simp at hb
      rw [h1, h2]; rfl
    simp [lastS, e, hs]

theorem lastS_append {l : List UInt8} {d : List UInt8} (h : ∀ b ∈ d, isDig b) (c : UInt8) (hc : isSign c = true) : lastS (l ++ c :: d) = l.length := by
  induction l with
  | nil => simp [lastS, lastS_digits h, hc]
  | cons b r ih => simp only [List.cons_append, lastS, ih]; simp

/-- The text of a number. -/
def txt (p q : Int) : List UInt8 :=
  if q = 0 then itoa p
  else if p = 0 then itoa q ++ [105]
  else if 0 < q then itoa p ++ [43] ++ (itoa q ++ [105])
  else itoa p ++ (itoa q ++ [105])
end Go.Proofs.YtndgglhppoijnaaGreatDoor
/-
  The walk of strings.LastIndexAny at the two signs, over ASCII bytes.
-/
namespace Go.Proofs.YtndgglhppoijnaaGreatDoor
open Go.RowKit
open Go.Lib
set_option maxRecDepth 100000

/-- The two signs. -/
abbrev signs : ByteArray := ⟨#[43, 45]⟩

theorem index_signs (x : UInt8) : (0 ≤ Lib.indexByte [43, 45] x) = (isSign x = true) := by
  unfold isSign
  by_cases h1 : x = 43
  · subst h1; decide
  · by_cases h2 : x = 45
    · subst h2; decide
    · have e1 : ((43 : UInt8) == x) = false := by rw [beq_eq_false_iff_ne]; exact fun h => h1 h.symm
      have e2 : ((45 : UInt8) == x) = false := by rw [beq_eq_false_iff_ne]; exact fun h => h2 h.symm
      have e3 : (x == (43 : UInt8)) = false := by rw [beq_eq_false_iff_ne]; exact h1
      have e4 : (x == (45 : UInt8)) = false := by rw [beq_eq_false_iff_ne]; exact h2
      simp [Lib.indexByte, e1, e2, e3, e4]

set_option maxHeartbeats 400000 in
theorem decodeLast_ascii (t : ByteArray) (n : Nat) (hn : t.size = n + 1) (hmax : n < 4294967296) (b : UInt8) (hb : t[n]'(by omega) = b) (h : b.toNat < 128) (w : World) :
    Calls Tryz.prog 120 #[.string t] w fun e w' => e = .returned (.tuple #[.int .i32 b.toNat, .int .i64 1]) ∧ w' = w := by
  have h1 : ((t.size : Int) == 0) = false := by rw [beq_eq_false_iff_ne]; omega
  go_enter Tryz.func120, Tryz.ntmps120
  go_wp2
  go_ret2
  exact ⟨rfl, rfl⟩

theorem idx_rune (b : UInt8) (h : b.toNat < 128) (w : World) :
    Calls Tryz.prog 116 #[.string signs, .int .i32 b.toNat] w fun e w' => e = .returned (.int .i64 (Lib.indexByte [43, 45] b)) ∧ w' = w := by
  have := Tryz.strings_IndexRune_ascii signs (b.toNat : Int) w (by omega) (by omega)
  have e : ((b.toNat : Int)).toNat.toUInt8 = b := by simp
  rw [e] at this
  exact this

set_option maxHeartbeats 400000 in
theorem la_one (s : ByteArray) (b : UInt8) (hs : s.size = 1) (hb : s[0]'(by omega) = b) (h : b.toNat < 128) (w : World) :
    Calls Tryz.prog 98 #[.string s, .string signs] w fun e w' => e = .returned (.int .i64 (if isSign b then 0 else -1)) ∧ w' = w := by
  have hx := index_signs b
  have h1 : ((s.size : Int) == 1) = true := by rw [beq_iff_eq]; omega
  by_cases hg : isSign b = true
  · have h0 : 0 ≤ Lib.indexByte [43, 45] b := by rw [hx]; exact hg
    rw [if_pos hg]
    clear hx hg
    go_enter Tryz.func98, Tryz.ntmps98
    go_wp2_with fail
    refine (idx_rune b h _).mono ?_
    rintro e w' ⟨rfl, rfl⟩
    go_wp2_with fail
    go_ret
    exact ⟨rfl, rfl⟩
  · have h0 : ¬ 0 ≤ Lib.indexByte [43, 45] b := by rw [hx]; exact hg
    rw [if_neg hg]
    clear hx hg
    go_enter Tryz.func98, Tryz.ntmps98
    go_wp2_with fail
    refine (idx_rune b h _).mono ?_
    rintro e w' ⟨rfl, rfl⟩
    go_wp2_with fail
    go_ret
    exact ⟨rfl, rfl⟩

theorem take_snoc (s : ByteArray) (k : Nat) (h : k < s.size) : s.data.toList.take (k + 1) = s.data.toList.take k ++ [s[k]] := by
  rw [List.take_succ_eq_append_getElem (by simpa using h)]; rfl

set_option maxHeartbeats 1000000 in
theorem la_short (s : ByteArray) (hne : s.size ≠ 1) (h8 : s.size ≤ 8) (hA : ∀ (j : Nat) (hj : j < s.size), (s[j]'hj).toNat < 128) (w : World) :
    Calls Tryz.prog 98 #[.string s, .string signs] w fun e w' => e = .returned (.int .i64 (lastS s.data.toList)) ∧ w' = w := by
  have h1 : ((s.size : Int) == 1) = false := by rw [beq_eq_false_iff_ne]; omega
  have h8z : decide ((8 : Int) < (s.size : Int)) = false := decide_eq_false (by omega)
  have HA : Hid (∀ (j : Nat) (hj : j < s.size), (s[j]'hj).toNat < 128) := hA
  clear hA
  go_enter Tryz.func98, Tryz.ntmps98
  go_wp2_with (go_at_call 117; refine (Tryz.strings_shouldUseASCIISet _ _).mono ?_; rintro e w' ⟨rfl, rfl⟩; rw [h8z])
  go_loop [13] (fun i => ∃ k : Nat, k ≤ s.size ∧ i = .int .i64 k ∧ Hid (lastS s.data.toList = lastS (s.data.toList.take k))) (fun i => (RowKit.intOf i).toNat)
  case atStart => exact ⟨s.size, Nat.le_refl _, rfl, show lastS s.data.toList = lastS (s.data.toList.take s.size) from by rw [List.take_of_length_le (Nat.le_of_eq (Lib.size_eq s).symm)]⟩
  case round =>
    obtain ⟨k, hk, rfl, hl⟩ := hrel
    cases k with
    | zero =>
      go_wp2
      go_ret
      refine ⟨?_, rfl⟩
      rw [hl.out]; rfl
    | succ k =>
      have hlt : k < s.size := by omega
      have hts : Hid (s.data.toList.take (k + 1) = s.data.toList.take k ++ [s[k]]) := take_snoc s k hlt
      have hb := HA.out k hlt
      go_wp2_with fail
      refine (decodeLast_ascii _ k (by simp [ByteArray.size_extract]; omega) (by omega) s[k] (by simp [ByteArray.getElem_extract]) hb _).mono ?_
      rintro e w' ⟨rfl, rfl⟩
      go_wp2_with fail
      refine (idx_rune _ hb _).mono ?_
      rintro e w' ⟨rfl, rfl⟩
      by_cases hg : isSign s[k] = true
      · have h0 : 0 ≤ Lib.indexByte [43, 45] s[k] := by rw [index_signs]; exact hg
        go_wp2_with fail
        go_ret
        refine ⟨?_, rfl⟩
        rw [hl.out, hts.out, lastS_snoc, if_pos hg]
        simp; omega
      · have h0 : ¬ 0 ≤ Lib.indexByte [43, 45] s[k] := by rw [index_signs]; exact hg
        go_wp2_with fail
        go_round
        case rel => exact ⟨k, by omega, by go_num, show lastS s.data.toList = lastS (s.data.toList.take k) from by rw [hl.out, hts.out, lastS_snoc, if_neg hg]⟩
        case measure => simp [RowKit.intOf]

set_option maxHeartbeats 1000000 in
theorem la_long (s : ByteArray) (h8 : 8 < s.size) (hs : s.size ≤ 281474976710656) (w : World) :
    Calls Tryz.prog 98 #[.string s, .string signs] w fun e w' => e = .returned (.int .i64 (lastS s.data.toList)) ∧ Below w.heap.size w w' := by
  have h1 : ((s.size : Int) == 1) = false := by rw [beq_eq_false_iff_ne]; omega
  have h8z : decide ((8 : Int) < (s.size : Int)) = true := decide_eq_true (by omega)
  have hv : ∀ w, (zeroValue 155).run Tryz.prog w = .ok (.agg (Array.replicate 256 (.bool false))) w := fun w => by kernel_rfl
  have hM := Tryz.strings_makeASCIISet hv signs w (by decide) (by
    intro j b hb
    have : b ∈ signs.data.toList := List.mem_of_getElem? hb
    simp at this
    rcases this with rfl | rfl <;> decide)
  have hsc : (storeCells ⟨w.heap.size + 1, 0, none⟩ (Lib.setCells [43, 45]).toList 0).run Tryz.prog ((w.alloc (.cells (Lib.setCells [43, 45]) 155)).alloc (.cells (Array.replicate 256 (.bool false)) 155)) = .ok () ((w.alloc (.cells (Lib.setCells [43, 45]) 155)).alloc (.cells (Lib.setCells [43, 45]) 155)) := by
    have := run_storeCells_new (P := Tryz.prog) (w.alloc (.cells (Lib.setCells [43, 45]) 155)) 155 (Array.replicate 256 (.bool false)) (Lib.setCells [43, 45]) (by rw [Lib.setCells_size]; kernel_rfl) (by rw [Lib.setCells_size, Array.size_replicate]) (Lib.setCells_one _)
    simpa using this
  have HC : Hid (∀ x : UInt8, ((w.alloc (.cells (Lib.setCells [43, 45]) 155)).alloc (.cells (Lib.setCells [43, 45]) 155)).cell? ⟨w.heap.size + 1, x.toNat, none⟩ = some (.bool (isSign x))) := fun x => by
    rw [World.cell?_alloc_at _ _ _ _ (by simp), Lib.setCells_at]
    have e : [43, 45].contains x = isSign x := by rw [Bool.eq_iff_iff]; simp [isSign]
    rw [e]
  go_enter Tryz.func98, Tryz.ntmps98
  go_wp2_with (first
    | (go_at_call 117; refine (Tryz.strings_shouldUseASCIISet _ _).mono ?_; rintro e w' ⟨rfl, rfl⟩; rw [h8z])
    | (go_at_call 118; refine hM.mono ?_; rintro e w' ⟨rfl, rfl⟩))
  clear hM hsc
  go_loop [8] (fun i => ∃ k : Nat, k ≤ s.size ∧ i = .int .i64 ((k : Int) - 1) ∧ Hid (lastS s.data.toList = lastS (s.data.toList.take k))) (fun i => (RowKit.intOf i + 1).toNat)
  case atStart => exact ⟨s.size, Nat.le_refl _, rfl, show lastS s.data.toList = lastS (s.data.toList.take s.size) from by rw [List.take_of_length_le (Nat.le_of_eq (Lib.size_eq s).symm)]⟩
  case round =>
    obtain ⟨k, hk, rfl, hl⟩ := hrel
    cases k with
    | zero =>
      go_wp2
      go_ret
      refine ⟨?_, bal (bal (Below.refl _ _))⟩
      rw [hl.out]; rfl
    | succ k =>
      have hlt : k < s.size := by omega
      have hts : Hid (s.data.toList.take (k + 1) = s.data.toList.take k ++ [s[k]]) := take_snoc s k hlt
      have e1 : (((k + 1 : Nat) : Int)) - 1 = (k : Int) := by omega
      rw [e1]
      have hcx := HC.out s[k]
      by_cases hg : isSign s[k] = true
      · rw [hg] at hcx
        go_wp2_with (go_at_call 119; refine (Tryz.asciiSet_contains _ s[k] _ _ hcx).mono ?_; rintro e w' ⟨rfl, rfl⟩)
        go_ret
        refine ⟨?_, bal (bal (Below.refl _ _))⟩
        rw [hl.out, hts.out, lastS_snoc, if_pos hg]
        simp; omega
      · have hg' : isSign s[k] = false := by simpa using hg
        rw [hg'] at hcx
        go_wp2_with (go_at_call 119; refine (Tryz.asciiSet_contains _ s[k] _ _ hcx).mono ?_; rintro e w' ⟨rfl, rfl⟩)
        go_round
        case rel => exact ⟨k, by omega, by go_num, show lastS s.data.toList = lastS (s.data.toList.take k) from by rw [hl.out, hts.out, lastS_snoc, if_neg hg]⟩
        case measure => simp [RowKit.intOf]
end Go.Proofs.YtndgglhppoijnaaGreatDoor
/-
  The walks of Text and Parse at the texts of numbers.
-/
namespace Go.Proofs.YtndgglhppoijnaaGreatDoor
open Go.RowKit
open Go.Lib
set_option maxRecDepth 100000

/-- A text of bytes. -/
def bs (l : List UInt8) : ByteArray := ⟨l.toArray⟩

theorem bs_size (l : List UInt8) : (bs l).size = l.length := by simp [bs, ByteArray.size]
theorem bs_list (l : List UInt8) : (bs l).data.toList = l := by simp [bs]
theorem bs_app (a b : List UInt8) : bs a ++ bs b = bs (a ++ b) := by
  apply ByteArray.ext
  simp [bs, ByteArray.data_append]

/-- The library's table of powers lies in memory. -/
def Tab (w : World) : Prop := Lib.TabIs Tryz.prog w "internal/strconv.uint64pow10" .u64 Lib.pow10Tab

theorem tab_keep {w w' : World} (h : Tab w) (hb : Below w.heap.size w w') : Tab w' :=
  Joins.tab_stays (show Tryz.prog.globalNamed "internal/strconv.uint64pow10" = some 8 by kernel_rfl) h hb (Nat.le_refl _)

theorem itoa_w (n : Int) (w : World) (ht : Tab w) (h : n.natAbs ≤ 16777216) :
    Calls Tryz.prog 102 #[.int .i64 n] w fun e w' => e = .returned (.string (bs (itoa n))) ∧ Below w.heap.size w w' := by
  refine (Tryz.strconv_Itoa n (by omega) (by omega) w ht).mono ?_
  rintro e w' ⟨rfl, k, os, rfl⟩
  exact ⟨rfl, Lib.below_grow _ _ (Nat.le_refl _) k os⟩

theorem la_any (s : ByteArray) (hs : s.size < 4294967281) (hA : ∀ (j : Nat) (hj : j < s.size), (s[j]'hj).toNat < 128) (w : World) :
    Calls Tryz.prog 98 #[.string s, .string signs] w fun e w' => e = .returned (.int .i64 (lastS s.data.toList)) ∧ Below w.heap.size w w' := by
  by_cases h1 : s.size = 1
  · refine (la_one s (s[0]'(by omega)) h1 rfl (hA 0 (by omega)) w).mono ?_
    rintro e w' ⟨rfl, rfl⟩
    refine ⟨?_, Below.refl _ _⟩
    have hl : s.data.toList = [s[0]'(by omega)] := by
      have := take_snoc s 0 (by omega)
      rw [List.take_of_length_le (by rw [← Lib.size_eq]; omega)] at this
      simpa using this
    rw [hl]
    simp [lastS]
  · by_cases h8 : s.size ≤ 8
    · refine (la_short s h1 h8 hA w).mono ?_
      rintro e w' ⟨rfl, rfl⟩
      exact ⟨rfl, Below.refl _ _⟩
    · exact la_long s (by omega) (by omega) w

set_option maxHeartbeats 1000000 in
theorem text_a (p : Int) (w : World) (ht : Tab w) (hp : p.natAbs ≤ 16777216) :
    Calls Tryz.prog 70 #[.complex .f64 (fl p) (fl 0)] w fun e w' => e = .returned (.tuple #[.string (bs (itoa p)), .int .i64 0]) ∧ Below w.heap.size w w' := by
  go_enter Tryz.func70, Tryz.ntmps70
  go_wp2_with fail
  refine (parts_any p 0 _ hp (by decide)).mono ?_
  rintro e w' ⟨rfl, rfl⟩
  go_wp2_with fail
  refine (itoa_w p _ ht hp).mono ?_
  rintro e w1 ⟨rfl, hb⟩
  go_wp2_with fail
  go_ret2
  exact ⟨rfl, hb⟩

set_option maxHeartbeats 1000000 in
theorem text_b (q : Int) (w : World) (ht : Tab w) (h0 : ¬ q = 0) (hq : q.natAbs ≤ 16777216) :
    Calls Tryz.prog 70 #[.complex .f64 (fl 0) (fl q)] w fun e w' => e = .returned (.tuple #[.string (bs (itoa q ++ [105])), .int .i64 0]) ∧ Below w.heap.size w w' := by
  have hz := (itoa_len hq).2
  have hsz : (bs (itoa q)).size ≤ 9 := by rw [bs_size]; exact hz
  clear hz
  go_enter Tryz.func70, Tryz.ntmps70
  go_wp2_with fail
  refine (parts_any 0 q _ (by decide) hq).mono ?_
  rintro e w' ⟨rfl, rfl⟩
  go_wp2_with fail
  refine (itoa_w q _ ht hq).mono ?_
  rintro e w1 ⟨rfl, hb⟩
  go_wp2_with fail
  go_ret2
  refine ⟨?_, hb⟩
  rw [← bs_app]; rfl

set_option maxHeartbeats 1000000 in
theorem text_c (p q : Int) (w : World) (ht : Tab w) (h0 : ¬ p = 0) (h1 : 0 < q) (hp : p.natAbs ≤ 16777216) (hq : q.natAbs ≤ 16777216) :
    Calls Tryz.prog 70 #[.complex .f64 (fl p) (fl q)] w fun e w' => e = .returned (.tuple #[.string (bs (itoa p ++ [43] ++ (itoa q ++ [105]))), .int .i64 0]) ∧ Below w.heap.size w w' := by
  have hz := (itoa_len hq).2
  have hy := (itoa_len hp).2
  have hsz : (bs (itoa q)).size ≤ 9 := by rw [bs_size]; exact hz
  have hsy : (bs (itoa p)).size ≤ 9 := by rw [bs_size]; exact hy
  have hq0 : ¬ q = 0 := by omega
  clear hz hy
  go_enter Tryz.func70, Tryz.ntmps70
  go_wp2_with fail
  refine (parts_any p q _ hp hq).mono ?_
  rintro e w' ⟨rfl, rfl⟩
  go_wp2_with fail
  refine (itoa_w q _ ht hq).mono ?_
  rintro e w1 ⟨rfl, hb⟩
  have ht1 := tab_keep ht hb
  go_wp2_with fail
  refine (itoa_w p _ ht1 hp).mono ?_
  rintro e w2 ⟨rfl, hb2⟩
  go_wp2_with fail
  go_ret2
  refine ⟨?_, hb.trans (hb2.mono hb.size)⟩
  rw [← bs_app, ← bs_app, ← bs_app]; rfl

set_option maxHeartbeats 1000000 in
theorem text_d (p q : Int) (w : World) (ht : Tab w) (h0 : ¬ p = 0) (h1 : q < 0) (hp : p.natAbs ≤ 16777216) (hq : q.natAbs ≤ 16777216) :
    Calls Tryz.prog 70 #[.complex .f64 (fl p) (fl q)] w fun e w' => e = .returned (.tuple #[.string (bs (itoa p ++ (itoa q ++ [105]))), .int .i64 0]) ∧ Below w.heap.size w w' := by
  have hz := (itoa_len hq).2
  have hy := (itoa_len hp).2
  have hsz : (bs (itoa q)).size ≤ 9 := by rw [bs_size]; exact hz
  have hsy : (bs (itoa p)).size ≤ 9 := by rw [bs_size]; exact hy
  have hq0 : ¬ q = 0 := by omega
  clear hz hy
  go_enter Tryz.func70, Tryz.ntmps70
  go_wp2_with fail
  refine (parts_any p q _ hp hq).mono ?_
  rintro e w' ⟨rfl, rfl⟩
  go_wp2_with fail
  refine (itoa_w q _ ht hq).mono ?_
  rintro e w1 ⟨rfl, hb⟩
  have ht1 := tab_keep ht hb
  go_wp2_with fail
  refine (itoa_w p _ ht1 hp).mono ?_
  rintro e w2 ⟨rfl, hb2⟩
  go_wp2_with fail
  go_ret2
  refine ⟨?_, hb.trans (hb2.mono hb.size)⟩
  rw [← bs_app, ← bs_app]; rfl

theorem text_w (p q : Int) (w : World) (ht : Tab w) (hp : p.natAbs ≤ 16777216) (hq : q.natAbs ≤ 16777216) :
    Calls Tryz.prog 70 #[.complex .f64 (fl p) (fl q)] w fun e w' => e = .returned (.tuple #[.string (bs (txt p q)), .int .i64 0]) ∧ Below w.heap.size w w' := by
  unfold txt
  by_cases h0 : q = 0
  · rw [if_pos h0]; subst h0; exact text_a p w ht hp
  · rw [if_neg h0]
    by_cases h1 : p = 0
    · rw [if_pos h1]; subst h1; exact text_b q w ht h0 hq
    · rw [if_neg h1]
      by_cases h2 : 0 < q
      · rw [if_pos h2]; exact text_c p q w ht h1 h2 hp hq
      · rw [if_neg h2]; exact text_d p q w ht h1 (by omega) hp hq

theorem cut_i (body : List UInt8) : Lib.trimSuffix (body ++ [105]) [105] = body ∧ Lib.hasSuffix (body ++ [105]) [105] = true := by
  have h : Lib.hasSuffix (body ++ [105]) [105] = true := by
    unfold Lib.hasSuffix
    rw [List.isSuffixOf_iff_suffix]
    exact List.suffix_append _ _
  refine ⟨?_, h⟩
  unfold Lib.trimSuffix
  rw [h]
  simp

theorem no_i {l : List UInt8} (h : ∀ b ∈ l, b ≠ 105) : Lib.hasSuffix l [105] = false := by
  rw [Bool.eq_false_iff]
  intro hc
  unfold Lib.hasSuffix at hc
  rw [List.isSuffixOf_iff_suffix] at hc
  obtain ⟨t, ht⟩ := hc
  exact h 105 (by rw [← ht]; simp) rfl

theorem cut_yes (body : List UInt8) (hl : body.length < 1000) (w : World) :
    Calls Tryz.prog 97 #[.string (bs (body ++ [105])), .string ⟨#[105]⟩] w fun e w' => e = .returned (.tuple #[.string (bs body), .bool true]) ∧ w' = w := by
  have := Tryz.strings_CutSuffix (bs (body ++ [105])) ⟨#[105]⟩ w (by rw [bs_size]; simp; omega)
  rw [bs_list] at this
  have e : (⟨#[105]⟩ : ByteArray).data.toList = [105] := rfl
  rw [e, (cut_i body).1, (cut_i body).2] at this
  exact this

theorem cut_no (l : List UInt8) (hl : l.length < 1000) (h : ∀ b ∈ l, b ≠ 105) (w : World) :
    Calls Tryz.prog 97 #[.string (bs l), .string ⟨#[105]⟩] w fun e w' => e = .returned (.tuple #[.string (bs l), .bool false]) ∧ w' = w := by
  have := Tryz.strings_CutSuffix (bs l) ⟨#[105]⟩ w (by rw [bs_size]; omega)
  rw [bs_list] at this
  have e : (⟨#[105]⟩ : ByteArray).data.toList = [105] := rfl
  have e2 : Lib.trimSuffix l [105] = l := by unfold Lib.trimSuffix; rw [no_i h]; rfl
  rw [e, no_i h, e2] at this
  exact this

set_option maxHeartbeats 400000 in
theorem halves_no (l : List UInt8) (hl : l.length < 1000) (h : ∀ b ∈ l, b ≠ 105) (w : World) :
    Calls Tryz.prog 67 #[.string (bs l)] w fun e w' => e = .returned (.tuple #[.string (bs l), .string ⟨#[48]⟩]) ∧ w' = w := by
  go_enter Tryz.func67, Tryz.ntmps67
  go_wp2_with fail
  refine (cut_no l hl h _).mono ?_
  rintro e w' ⟨rfl, rfl⟩
  go_wp2_with fail
  go_ret2
  exact ⟨rfl, rfl⟩

theorem la_bs (l : List UInt8) (hl : l.length < 1000) (hA : ∀ b ∈ l, b.toNat < 128) (w : World) :
    Calls Tryz.prog 98 #[.string (bs l), .string ⟨#[43, 45]⟩] w fun e w' => e = .returned (.int .i64 (lastS l)) ∧ Below w.heap.size w w' := by
  have := la_any (bs l) (by rw [bs_size]; omega) (by
    intro j hj
    apply hA
    have : (bs l)[j] = l[j]'(by rw [bs_size] at hj; exact hj) := by simp [bs, ByteArray.getElem_eq_getElem_data]
    rw [this]
    exact List.getElem_mem _) w
  rw [bs_list] at this
  exact this

set_option maxHeartbeats 400000 in
theorem halves_le (l : List UInt8) (hl : l.length < 900) (hA : ∀ b ∈ l, b.toNat < 128) (hk : lastS l ≤ 0) (w : World) :
    Calls Tryz.prog 67 #[.string (bs (l ++ [105]))] w fun e w' => e = .returned (.tuple #[.string ⟨#[48]⟩, .string (bs l)]) ∧ Below w.heap.size w w' := by
  go_enter Tryz.func67, Tryz.ntmps67
  go_wp2_with fail
  refine (cut_yes l (by omega) _).mono ?_
  rintro e w' ⟨rfl, rfl⟩
  go_wp2_with fail
  refine (la_bs l (by omega) hA _).mono ?_
  rintro e w1 ⟨rfl, hb⟩
  go_wp2_with fail
  go_ret2
  exact ⟨rfl, hb⟩

theorem bs_extract (l : List UInt8) (a b : Nat) : (bs l).extract a b = bs ((l.drop a).take (b - a)) := by
  apply ByteArray.ext
  apply Array.ext'
  have := Lib.extract_toList (bs l) a b
  rw [bs_list] at this
  rw [Lib.toList_data] at this
  rw [this, bs_list]

set_option maxHeartbeats 1000000 in
theorem halves_gt (l : List UInt8) (k : Nat) (hl : l.length < 900) (hA : ∀ b ∈ l, b.toNat < 128) (h0 : 0 < k) (hk : lastS l = k) (w : World) :
    Calls Tryz.prog 67 #[.string (bs (l ++ [105]))] w fun e w' => e = .returned (.tuple #[.string (bs (l.take k)), .string (bs (l.drop k))]) ∧ Below w.heap.size w w' := by
  have hkl : k < l.length := by have := (lastS_ge l).2; omega
  have hsz := bs_size l
  have hc := la_bs l (by omega) hA
  rw [hk] at hc
  have HC : Hid (∀ w, Calls Tryz.prog 98 #[.string (bs l), .string ⟨#[43, 45]⟩] w fun e w' => e = .returned (.int .i64 (k : Int)) ∧ Below w.heap.size w w') := hc
  have hk1 : ¬ (k : Int) ≤ 0 := by omega
  have hk2 : (k : Int) ≤ ((bs l).size : Int) := by omega
  clear hc hk hA
  go_enter Tryz.func67, Tryz.ntmps67
  go_wp2_with fail
  refine (cut_yes l (by omega) _).mono ?_
  rintro e w' ⟨rfl, rfl⟩
  go_wp2_with fail
  refine (HC.out _).mono ?_
  rintro e w1 ⟨rfl, hb⟩
  go_wp2_with fail
  go_quiet (fail)
  go_wp2
  go_ret2
  refine ⟨?_, below_drewN hb _⟩
  have e1 : (bs l).extract 0 k = bs (l.take k) := by rw [bs_extract]; simp
  have e2 : (bs l).extract k l.length = bs (l.drop k) := by rw [bs_extract, List.take_of_length_le (by simp)]
  show Ending.returned (.tuple #[.string ((bs l).extract 0 k), .string ((bs l).extract k l.length)]) = _
  rw [e1, e2]

theorem atoi_w (l : List UInt8) (n : Int) (hl : l.length ≤ 18) (h : Lib.atoi l = some n) (w : World) :
    Calls Tryz.prog 68 #[.string (bs l)] w fun e w' => e = .returned (.tuple #[.int .i64 n, .nilIface]) ∧ Below w.heap.size w w' := by
  refine (Tryz.strconv_Atoi (bs l) n (by rw [bs_size]; exact hl) (by rw [bs_list]; exact h) w).mono ?_
  rintro e w' ⟨rfl, t, rfl⟩
  exact ⟨rfl, Lib.bytesWorld_below _ _ _⟩

set_option maxHeartbeats 1000000 in
theorem parse_of (p q : Int) (re im : List UInt8) (w : World) (ht : Tab w) (hp : p.natAbs ≤ 16777216) (hq : q.natAbs ≤ 16777216)
    (HH : Hid (∀ w, Calls Tryz.prog 67 #[.string (bs (txt p q))] w fun e w' => e = .returned (.tuple #[.string (bs re), .string (bs im)]) ∧ Below w.heap.size w w'))
    (h1 : Hid (Lib.atoi re = some p)) (h2 : Hid (Lib.atoi im = some q)) (l1 : re.length ≤ 18) (l2 : im.length ≤ 18) :
    Calls Tryz.prog 46 #[.string (bs (txt p q))] w fun e w' => e = .returned (.tuple #[.complex .f64 (fl p) (fl q), .int .i64 0]) ∧ Below w.heap.size w w' := by
  go_enter Tryz.func46, Tryz.ntmps46
  go_wp2_with fail
  refine (HH.out _).mono ?_
  rintro e w1 ⟨rfl, hb1⟩
  go_wp2_with fail
  refine (atoi_w re p l1 h1.out _).mono ?_
  rintro e w2 ⟨rfl, hb2⟩
  have hb2 := hb1.trans (hb2.mono hb1.size)
  clear hb1
  go_wp2_with fail
  refine (atoi_w im q l2 h2.out _).mono ?_
  rintro e w3 ⟨rfl, hb3⟩
  have hb3 := hb2.trans (hb3.mono hb2.size)
  clear hb2
  go_wp2_with fail
  refine (make_yes p q _ hp hq).mono ?_
  rintro e w' ⟨rfl, rfl⟩
  have ht3 := tab_keep ht hb3
  go_wp2_with fail
  refine (text_w p q _ ht3 hp hq).mono ?_
  rintro e w4 ⟨rfl, hb4⟩
  go_wp2_with fail
  go_ret2
  exact ⟨rfl, hb3.trans (hb4.mono hb3.size)⟩

theorem itoa_bytes (n : Int) : ∀ b ∈ itoa n, b.toNat < 128 ∧ b ≠ 105 := by
  intro b hb
  have hd : ∀ u, ∀ b ∈ decDigits u, b.toNat < 128 ∧ b ≠ 105 := by
    intro u b hb
    have := decDigits_dig u b hb
    unfold isDig at this
    refine ⟨by omega, ?_⟩
    intro hc
    rw [hc] at this
    simp at this
  unfold itoa at hb
  split at hb
  · rcases List.mem_cons.1 hb with rfl | hb
    · decide
    · exact hd _ b hb
  · exact hd _ b hb

theorem lastS_itoa_pos {n : Int} (h : 0 ≤ n) : lastS (itoa n) = -1 := by
  unfold itoa
  rw [if_neg (by omega)]
  exact lastS_digits (decDigits_dig _)

theorem lastS_itoa_neg {n : Int} (h : n < 0) : lastS (itoa n) = 0 := by
  unfold itoa
  rw [if_pos h]
  have := lastS_append (l := []) (decDigits_dig n.natAbs) 45 (by decide)
  simpa using this

theorem parse_w (p q : Int) (w : World) (ht : Tab w) (hp : p.natAbs ≤ 16777216) (hq : q.natAbs ≤ 16777216) :
    Calls Tryz.prog 46 #[.string (bs (txt p q))] w fun e w' => e = .returned (.tuple #[.complex .f64 (fl p) (fl q), .int .i64 0]) ∧ Below w.heap.size w w' := by
  have lp := itoa_len hp
  have lq := itoa_len hq
  by_cases h0 : q = 0
  · subst h0
    refine parse_of p 0 (itoa p) [48] w ht hp hq ?_ (atoi_itoa p) (by have := atoi_itoa 0; rw [itoa_zero] at this; exact this) (by omega) (by decide)
    intro w
    unfold txt
    rw [if_pos rfl]
    refine (halves_no (itoa p) (by omega) (fun b hb => (itoa_bytes p b hb).2) w).mono ?_
    rintro e w' ⟨rfl, rfl⟩
    exact ⟨rfl, Below.refl _ _⟩
  · by_cases h1 : p = 0
    · subst h1
      refine parse_of 0 q [48] (itoa q) w ht hp hq ?_ (by have := atoi_itoa 0; rw [itoa_zero] at this; exact this) (atoi_itoa q) (by decide) (by omega)
      intro w
      unfold txt
      rw [if_neg h0, if_pos rfl]
      refine halves_le (itoa q) (by omega) (fun b hb => (itoa_bytes q b hb).1) ?_ w
      by_cases hq0 : 0 ≤ q
      · rw [lastS_itoa_pos hq0]; decide
      · rw [lastS_itoa_neg (by omega)]; decide
    · by_cases h2 : 0 < q
      · refine parse_of p q (itoa p) (43 :: itoa q) w ht hp hq ?_ (atoi_itoa p) (atoi_plus (by omega)) (by omega) (by simp; omega)
        intro w
        unfold txt
        rw [if_neg h0, if_neg h1, if_pos h2]
        have e : itoa p ++ [43] ++ (itoa q ++ [105]) = (itoa p ++ 43 :: itoa q) ++ [105] := by simp
        have hd : ∀ b ∈ itoa q, isDig b := by unfold itoa; rw [if_neg (by omega)]; exact decDigits_dig _
        rw [e]
        have := halves_gt (itoa p ++ 43 :: itoa q) (itoa p).length (by simp; omega) (by
          intro b hb
          rcases List.mem_append.1 hb with hb | hb
          · exact (itoa_bytes p b hb).1
          · rcases List.mem_cons.1 hb with rfl | hb
            · decide
            · exact (itoa_bytes q b hb).1) (by omega) (lastS_append hd 43 (by decide)) w
        rw [List.take_left, List.drop_left] at this
        exact this
      · refine parse_of p q (itoa p) (itoa q) w ht hp hq ?_ (atoi_itoa p) (atoi_itoa q) (by omega) (by omega)
        intro w
        unfold txt
        rw [if_neg h0, if_neg h1, if_neg h2]
        have eq : itoa q = 45 :: decDigits q.natAbs := by unfold itoa; rw [if_pos (by omega)]
        have e : itoa p ++ (itoa q ++ [105]) = (itoa p ++ itoa q) ++ [105] := by simp
        rw [e]
        have hlast : lastS (itoa p ++ itoa q) = ((itoa p).length : Nat) := by rw [eq]; exact lastS_append (decDigits_dig _) 45 (by decide)
        have := halves_gt (itoa p ++ itoa q) (itoa p).length (by simp; omega) (by
          intro b hb
          rcases List.mem_append.1 hb with hb | hb
          · exact (itoa_bytes p b hb).1
          · exact (itoa_bytes q b hb).1) (by omega) hlast w
        rw [List.take_left, List.drop_left] at this
        exact this
end Go.Proofs.YtndgglhppoijnaaGreatDoor
