/-
  4 texts in one: what each proves stands at its head.
-/
import Derived.Test.YtimoappbefindaaGreatUgb
import Derived.Test.YtimoappbefindaaGreatUgg
import Derived.Test.YtimoappbefindaaGreatUr
import Derived.Deep.DeepCutAuto
import Derived.BigQuiet
import Derived.Test.YtimoappbefindaaGreatUkd
import Derived.Test.YtimoappbefindaaGreatUq
namespace Go.Proofs.YtimoappbefindaaGreat
open Go.RowKit
set_option maxRecDepth 100000
namespace Gw
def tt (t:List (List Bool)) (i k:Nat):Bool:=(t.getD i []).getD k false
def bl (n:Nat) (f:Nat→Bool):List Bool:=(List.range n).map f
theorem bl_len (n:Nat) (f:Nat→Bool):(bl n f).length=n:=by simp[bl]
theorem bl_get {n k:Nat} (f:Nat→Bool) (hk:k<n):(bl n f)[k]?=some (f k):=by
 unfold bl
 rw[List.getElem?_map,List.getElem?_range hk]
 rfl
end Gw
open Go.RowKit Go.Maps
mutual
def ncE:Ex→List (List UInt8)
 |.mk op name _ _ _ _ xs _=>(if op=7 then [name] else [])++ncL xs
def ncL:List Ex→List (List UInt8)
 |[]=>[]
 |x::xs=>ncE x++ncL xs
end
theorem ou (op:Int) (name tail:List UInt8) (ty p q:Int) (xs:List Ex) (i:Nat):ncE (.mk op name tail ty p q xs i)=(if op=7 then [name] else [])++ncL xs:=by rw[ncE]
theorem kQ:ncL []=[]:=by rw[ncL]
theorem iP (x:Ex) (xs:List Ex):ncL (x::xs)=ncE x++ncL xs:=by rw[ncL]
mutual
theorem ncE_len:∀ x:Ex,(ncE x).length≤szE x
 |.mk op name tail ty p q xs i=>by
  rw[ou,bW,List.length_append]
  have:=nA xs
  split
  ·rw[List.length_singleton];omega
  ·simp only[List.length_nil];omega
theorem nA:∀ xs:List Ex,(ncL xs).length≤szL xs
 |[]=>by rw[kQ,bB];simp
 |x::xs=>by
  rw[iP,aO,List.length_append]
  have:=ncE_len x
  have:=nA xs
  omega
end
mutual
theorem pE (kn:List UInt8→Option Int):∀ x:Ex,caE kn x=(ncE x).map fun s=>(kn s).getD 0
 |.mk op name tail ty p q xs i=>by
  rw[lI,ou,List.map_append,o8 kn xs]
  split<;>rfl
theorem o8 (kn:List UInt8→Option Int):∀ xs:List Ex,caL kn xs=(ncL xs).map fun s=>(kn s).getD 0
 |[]=>by rw[gN,kQ];rfl
 |x::xs=>by rw[dQ,iP,List.map_append,pE kn x,o8 kn xs]
end
namespace Gw
def TabR (w:World) (B:Nat) (v:Value) (t:List (List Bool)):Prop:=∃ vs:List Value,w.ownsRow B 71 1 v vs.length vs∧vs.length=t.length∧∀ (j:Nat) (row:List Bool),t[j]?=some row→∃ g,vs[j]?=some (.slice (some ⟨g,0,none⟩) row.length row.length)∧B≤g∧Bk w g 4 (row.map Value.bool)
section
variable {w w':World} {B:Nat} {v:Value} {t:List (List Bool)}
theorem TabR.nil (w:World) (B:Nat):TabR w B (.slice none 0 0) []:=⟨[],⟨rfl,.inl ⟨rfl,rfl⟩⟩,rfl,fun j row h=>by simp at h⟩
theorem TabR.len (h:TabR w B v t):∃ ao c,v=.slice ao t.length c:=by
 obtain⟨vs,h1,h2,_⟩:=h
 obtain⟨r,c,e⟩:=dY h1
 rw[h2] at e
 exact⟨r,c,e⟩
end
def rowG (gs:List Fn1) (g:Fn1):List Bool:=bl gs.length fun k=>decide ((gs.getD k fd).name∈ncE g.body)
def tabG (gs:List Fn1):List (List Bool):=gs.map (rowG gs)
theorem bP (gs:List Fn1):(tabG gs).length=gs.length:=List.length_map _
theorem rowG_len (gs:List Fn1) (g:Fn1):(rowG gs g).length=gs.length:=bl_len _ _
theorem fe (gs:List Fn1):∀ row∈tabG gs,row.length=(tabG gs).length:=fun row h=>by
 obtain⟨g,_,rfl⟩:=List.mem_map.1 h
 rw[rowG_len,bP]
end Gw
end Go.Proofs.YtimoappbefindaaGreat
