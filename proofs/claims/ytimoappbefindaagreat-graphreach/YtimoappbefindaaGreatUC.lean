/-
  4 texts in one: what each proves stands at its head.
-/
import Derived.Shelf.Small.Utf8
import Derived.Shelf.Small.Strs
import Derived.Shelf.Small.Wraps
import Derived.Shelf.Strconv.Atoi
import Derived.Shelf.Strconv.Itoa0
import Derived.Shelf.Strconv.Itoa1
import Derived.Shelf.LaysM
import Derived.Shelf.Strconv.Itoa2
import Derived.Shelf.Strconv.Itoa3
import Derived.Shelf.Strconv.AtoiErrFast
import Derived.Shelf.Strconv.ParseIntEmpty
import Derived.Shelf.Strconv.AtoiFail
import Derived.Shelf.Strconv.Clone
import Derived.Shelf.Strconv.SyntaxError
import Derived.Shelf.LaysC
import Derived.Shelf.Strconv.ToError
import Derived.Shelf.Strconv.Lower
import Derived.Shelf.Strconv.ParseUint10
import Derived.Shelf.Strconv.ParseUint10Empty
import Derived.Shelf.Strconv.ParseUint10Any
import Derived.Shelf.Strconv.ParseInt10
import Derived.Shelf.Strconv.AtoiLong
import Derived.Shelf.Strconv.AtoiInnerAll
import Derived.Shelf.Strconv.RangeError
import Derived.Shelf.Strconv.ToErrorRange
import Derived.Shelf.Strconv.AtoiAll
import Derived.Shelf.Strconv.ErrVarAll
import Derived.Shelf.Strings.Search1
import Derived.Shelf.Strings.Prefix
import Derived.Shelf.Strings.Runes
import Derived.Shelf.Strings.IndexAny
import Derived.Shelf.Strings.AsciiSet
import Derived.Shelf.Unicode.DecodeSlow
import Derived.Shelf.Unicode.DecodeAny
import Derived.Shelf.Unicode.DecodeLast
import Derived.Test.YtimoappbefindaaGreatProg
import Derived.Lib.Atoi
import Derived.Lib.ItoaMem
import Derived.Lib.Strings
import Derived.Test.YtimoappbefindaaGreatUB
import Derived.Deep.LoopGhost
import Derived.Lib.Builder
import Derived.Deep.WholeRow
import Derived.Lib.AppendIntMem
import Derived.Lib.AtoiErrMem
import Derived.Lib.SmallJoins
import Derived.Deep.QuietTactic
import Derived.BigQuiet
namespace Go.Proofs.YtimoappbefindaaGreat
open Go.Lib
theorem dig_of {d:Nat} (h:d<10):(UInt8.ofNat (48+d)).toNat=48+d:=by
 rw[UInt8.toNat_ofNat'];omega
theorem dO {n:Int} (h:n.natAbs≤16777216):1≤(itoa n).length∧(itoa n).length≤9:=by
 have hd:∀ u,u≤16777216→1≤(decDigits u).length∧(decDigits u).length≤8:=by
  intro u hu
  rw[decDigits_length]
  refine⟨nDigits_pos u,?_⟩
  apply Decidable.byContradiction
  intro hc
  have h1:∀ k u,k<nDigits u→1≤k→10 ^ k≤u:=by
   intro k
   induction k with
   |zero=>intro u _ h0;omega
   |succ k ih=>
    intro u hk _
    by_cases hu:u<10
    ·rw[nDigits_small hu] at hk;omega
    ·rw[nDigits_big hu] at hk
     by_cases hk0:k=0
     ·subst hk0;omega
     ·have:=ih (u / 10) (by omega) (by omega)
      rw[Nat.pow_succ];omega
  have:=h1 8 u (by omega) (by omega)
  omega
 unfold itoa
 split
 ·have:=hd n.natAbs h
  simp;omega
 ·have:=hd n.toNat (by omega)
  omega
def txt (p q:Int):List UInt8:=
 if q=0 then itoa p
 else if p=0 then itoa q++[105]
 else if 0<q then itoa p++[43]++(itoa q++[105])
 else itoa p++(itoa q++[105])
open Go.RowKit
set_option maxRecDepth 100000
def bs (l:List UInt8):ByteArray:=⟨l.toArray⟩
theorem bA (l:List UInt8):(bs l).size=l.length:=by simp[bs,ByteArray.size]
theorem fA (l:List UInt8):(bs l).data.toList=l:=by simp[bs]
theorem fI (a b:List UInt8):bs a++bs b=bs (a++b):=by
 apply ByteArray.ext
 simp[bs,ByteArray.data_append]
theorem iJ (l:List UInt8) (a b:Nat):(bs l).extract a b=bs ((l.drop a).take (b-a)):=by
 apply ByteArray.ext
 apply Array.ext'
 have:=Lib.extract_toList (bs l) a b
 rw[fA] at this
 rw[Lib.toList_data] at this
 rw[this,fA]
end Go.Proofs.YtimoappbefindaaGreat
