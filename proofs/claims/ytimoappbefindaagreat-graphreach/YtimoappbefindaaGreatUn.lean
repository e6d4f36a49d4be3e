/-
  3 texts in one: what each proves stands at its head.
-/
import Derived.Test.YtimoappbefindaaGreatUm
import Derived.RangeFuncNested
import Derived.RangeFuncBound
import Derived.RangeFuncCalls
import Derived.RangeFuncLeaves
import Derived.Shelf.Abstract
import Derived.Shelf.RegionOpen
import Derived.WalkKit
import Derived.OwnWalkIn
import Derived.TacticsInMore
import Derived.LoopNIn
import Derived.LoopIn
namespace Go.Proofs.YtimoappbefindaaGreat
open Go.RowKit Go.Maps
set_option maxRecDepth 100000
def PqW (w:World) (A:Nat→Prop) (ao:Option Addr) (ps:List Pm):Prop:=ps=[]∨∃ g,ao=some ⟨g,0,none⟩∧A g∧g<w.heap.size∧∀ k,k<ps.length→∃ z:Int,w.rangeAt g (k*3) [.string (bs (ps.getD k pd).name),.int .i64 (ps.getD k pd).ty,.int .i64 z]
theorem PlW.q {w:World} {A:Nat→Prop} {ao:Option Addr} {ps:List Pm} (h:PlW w A ao ps):PqW w A ao ps:=by
 rcases h with h|⟨g,e,ha,hl,hr⟩
 ·exact .inl h
 ·refine .inr ⟨g,e,ha,hl,fun k hk=>⟨((ps.getD k pd).pos:Int),?_⟩⟩
  obtain⟨g',e',h'⟩:=PlW.at (.inr ⟨g,e,ha,hl,hr⟩) k hk
  rw[e] at e'
  cases e'
  exact h'
theorem PqW.keep {w w':World} {A:Nat→Prop} {ao:Option Addr} {ps:List Pm} (h:PqW w A ao ps) (hs:w.heap.size≤w'.heap.size) (hk:∀ b,A b→b<w.heap.size→w'.heap[b]?=w.heap[b]?):PqW w' A ao ps:=by
 rcases h with h|⟨g,e,ha,hl,hr⟩
 ·exact .inl h
 ·refine .inr ⟨g,e,ha,by omega,fun k hlt=>?_⟩
  obtain⟨z,hz⟩:=hr k hlt
  refine⟨z,fun j v hv=>?_⟩
  rw[show w'.cell? ⟨g,k*3+j,none⟩=w.cell? ⟨g,k*3+j,none⟩ from World.cell?_of_block (w:=w) (hk g ha hl)]
  exact hz j v hv
theorem PqW.at {w:World} {A:Nat→Prop} {ao:Option Addr} {ps:List Pm} (h:PqW w A ao ps) (k:Nat) (hk:k<ps.length):∃ g,∃ z:Int,ao=some ⟨g,0,none⟩∧w.rangeAt g (k*3) [.string (bs (ps.getD k pd).name),.int .i64 (ps.getD k pd).ty,.int .i64 z]:=by
 rcases h with h|⟨g,e,_,_,hr⟩
 ·rw[h] at hk;simp at hk
 ·obtain⟨z,hz⟩:=hr k hk
  exact⟨g,z,e,hz⟩
def setF (ff:List UInt8→Option Fn1) (s:List UInt8) (g:Fn1):List UInt8→Option Fn1:=fun t=>if t=s then some g else ff t
open Go.RowKit Go.Shelf Go.Maps
attribute [local go_sem] Oper.semAt_some
def KpB (Bs:Nat) (ao:Option Addr) (ln:Nat) (A B:World):Prop:=B.heap[Bs]?=A.heap[Bs]?∧∀ g off,0<ln→ao=some ⟨g,off,none⟩→B.heap[g]?=A.heap[g]?
theorem KpB.trans {Bs:Nat} {ao:Option Addr} {ln:Nat} {A B C:World} (h:KpB Bs ao ln A B) (k:KpB Bs ao ln B C):KpB Bs ao ln A C:=⟨k.1.trans h.1,fun g off l e=>(k.2 g off l e).trans (h.2 g off l e)⟩
end Go.Proofs.YtimoappbefindaaGreat
