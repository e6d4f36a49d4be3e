/-
  2 texts in one: what each proves stands at its head.
-/
import Derived.Test.YtimoappbefindaaGreatUo
namespace Go.Proofs.YtimoappbefindaaGreat
open Go.RowKit Go.Maps
set_option maxRecDepth 100000
theorem fin2 {w X:World} {r:Nat} {y z:Value} (hR:Bk X r 49 [y,z]) (hb:Below w.heap.size w X) (hr:w.heap.size≤r) (a b:Value) :
  ((X.setCell ⟨r,0,none⟩ a).setCell ⟨r,1,none⟩ b).cell? ⟨r,0,none⟩=some a∧((X.setCell ⟨r,0,none⟩ a).setCell ⟨r,1,none⟩ b).cell? ⟨r,1,none⟩=some b∧Below w.heap.size w ((X.setCell ⟨r,0,none⟩ a).setCell ⟨r,1,none⟩ b):=by
 have hRe:=Bk.set (Bk.set hR 0 a) 1 b
 have ho:Oth r X ((X.setCell ⟨r,0,none⟩ a).setCell ⟨r,1,none⟩ b):=((Oth.refl _ X).set 0 _).set 1 _
 exact⟨hRe.cell 0,hRe.cell 1,ho.os.trans hb.os,ho.tape.trans hb.tape,ho.output.trans hb.output,by rw[ho.size];exact hb.size,fun k hk=>(ho.block k (by omega)).trans (hb.block k hk)⟩
section
variable (w:World)
end
end Go.Proofs.YtimoappbefindaaGreat
