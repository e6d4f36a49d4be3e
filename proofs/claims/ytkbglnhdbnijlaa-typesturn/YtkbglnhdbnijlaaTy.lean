/-
  The walk of TypesBodies.
-/
import Derived.Test.YtkbglnhdbnijlaaUs
import Derived.Test.YtkbglnhdbnijlaaUr
import Derived.Test.YtkbglnhdbnijlaaUp
import Derived.Test.YtkbglnhdbnijlaaUu
namespace Go.Proofs.Ytkbglnhdbnijlaa
open Go.RowKit
set_option maxRecDepth 100000
theorem check06_ok {w:World} {A:Nat→Prop} {ao:Option Addr} {gs:List Fn1} {c:Nat} (ho:PrgOk gs) (hF:FlW w A ao gs) :
  Calls Try.prog 12 #[.agg #[.slice ao gs.length c]] w fun e w'=>e=.returned (.agg #[.int .i64 (lsP (ftP gs)).1,.int .i64 (lsP (ftP gs)).2])∧Below w.heap.size w w':=
 check06_any (A:=fun b=>A b∧b<w.heap.size) (hF.imp fun b h hl=>⟨h,hl⟩) (fun _ h=>h.2) (fun g hg=>by have:=ho.sz g hg;omega) (fun g hg=>by have:=ho.pms g hg;omega) (by have:=ho.num;omega)
theorem rd_fork {l:List UInt8} {f B:Nat} {e:Ending} {w':World} (h:rdV l f B e w') :
  (∃ ms gs j ao c,l.length≤32768∧cut rdN l 0=.ok ms∧progL (mf ms) LW5 f [] 0=.ok gs j∧e=.returned (.tuple #[.agg #[.slice ao gs.length c],.bool true])∧FlW w' (fun b=>B≤b) ao gs)∨e=.returned (.tuple #[.agg #[.slice none 0 0],.bool false]):=by
 rcases h with h|⟨_,h⟩
 ·exact .inl h
 ·exact .inr h
theorem fld0 (y a:Int) (w:World):(Instr.field 31 (.agg #[.int .i64 y,.int .i64 a]) 0).run Try.prog w=.ok (.int .i64 y) w:=by kernel_rfl
end Go.Proofs.Ytkbglnhdbnijlaa
