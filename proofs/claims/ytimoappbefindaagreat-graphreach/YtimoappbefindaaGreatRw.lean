/-
  The region of the document's seen that draws its order; regions with memory, once for all.
-/
import Derived.Test.YtimoappbefindaaGreatUq
import Derived.Test.YtimoappbefindaaGreatUe
namespace Go.Proofs.YtimoappbefindaaGreat
open Go.RowKit Go.Maps
set_option maxRecDepth 100000
namespace Rv
section
variable {P:Program} {ops:Array Oper} {Q:Exit→Act→World→Prop} {i:Nat} {o:Oper} {a:Act} {w w1:World} {v:Value} {s:Option Nat} {J:World→Prop}
theorem run2 (ho:ops[i]?=some o) (hd:o.dst=s) (hw:Region.wanted o (yielded ops a.tmps)=true) (hr:(execOp a.eval o).run P w=.ok (.value v) w1) (hJ:J w1):wpOp P ops Q i (fun a' w'=>a'=a.put s v∧J w') a w:=by
 refine wp ho hw ?_
 unfold Oper.wp
 rw[hr]
 show a.put o.dst v=_∧_
 rw[hd]
 exact⟨rfl,hJ⟩
end
end Rv
section
variable (op:Int) (name tail:List UInt8) (v3 v4 v5 v6:Value) (an:Option Addr) (n cn b2:Nat) (hs:Bool) (H:Nat) (v':Value)
end
section
variable {Q:Exit→Act→World→Prop} {W:World} {a0:Act}
end
end Go.Proofs.YtimoappbefindaaGreat
