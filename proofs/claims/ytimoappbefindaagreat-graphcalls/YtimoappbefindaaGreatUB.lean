/-
  10 texts in one: what each proves stands at its head.
-/
import Derived.Laws.FloatArith
import Derived.Laws.ComplexArith
import Derived.Test.YtimoappbefindaaGreatRows
import Derived.WalkKit
import Derived.WalkSpells
import Derived.WalkLawsBesides
import Derived.Laws.Externs
import Derived.Deep.QuietTactic
import Derived.BigQuiet
namespace Go.Proofs.YtimoappbefindaaGreat
set_option maxHeartbeats 400000
open Ieee
def fl (n:Int):Nat:=double.nearest (decide (n<0)) n.natAbs 0
theorem gL:fl 0=0:=rfl
def nb (b:Nat):Int:=((double.read b).toInt .zero).getD 0
def vp (b:Nat):Bool:=decide ((nb b).natAbs≤16777216)&&fl (nb b)==b
open Go.RowKit
theorem gD {a b:Bool} (h:a=b):Ending.returned (.bool a)=.returned (.bool b):=by rw[h]
theorem rz (n:Int):floatOfInt .f64 n=fl n:=rfl
def okC (x y:Int):Bool:=decide (x.natAbs≤16777216)&&decide (y.natAbs≤16777216)
def ansE (x y:Int):Int:=if okC x y then 0 else 50
def same (a b c d:Nat):Bool:=decide (a=c∧b=d)
theorem kQ {x y:Int}:okC x y=true↔x.natAbs≤16777216∧y.natAbs≤16777216:=by
 unfold okC;simp
def vc (a b:Nat):Bool:=vp a&&vp b
theorem bcell {W w1:World} (hb:Below W.heap.size W w1):(∀ b o,b<W.heap.size→w1.cell? ⟨b,o,none⟩=W.cell? ⟨b,o,none⟩)∧(∀ b o,b<W.heap.size→w1.frozen? ⟨b,o,none⟩=W.frozen? ⟨b,o,none⟩):=
 ⟨fun b o h=>hb.cell (p:=⟨b,o,none⟩) h,fun b o h=>hb.frozen (p:=⟨b,o,none⟩) h⟩
def inX (x y:Int):Int:=if okC x y then x else 0
def inY (x y:Int):Int:=if okC x y then y else 0
theorem dV (x y:Int) (w:World) :
  Calls Tryz.prog 103 #[.agg #[.int .i64 x,.int .i64 y]] w fun e w'=>e=.returned (.tuple #[.agg #[.int .i64 (inX x y),.int .i64 (inY x y)],.int .i64 (ansE x y)])∧w'=(w.alloc (.cells #[.int .i64 x,.int .i64 y] 161)).alloc (.cells #[.int .i64 (inX x y),.int .i64 (inY x y)] 161):=by
 by_cases h:okC x y=true
 ·have e1:inX x y=x:=by unfold inX;rw[h];rfl
  have e2:inY x y=y:=by unfold inY;rw[h];rfl
  have e3:ansE x y=0:=by unfold ansE;rw[h];rfl
  rw[e1,e2,e3]
  obtain⟨b1,b2⟩:=kQ.1 h
  have h1:¬ x < -16777216:=by omega
  have h2:¬ 16777216<x:=by omega
  have h3:¬ y < -16777216:=by omega
  have h4:¬ 16777216<y:=by omega
  clear e1 e2 e3 h b1 b2
  go_enter Tryz.func103,Tryz.ntmps103
  go_wp2
  exact bodyPost_ret (v:=.tuple #[.agg #[.int .i64 x,.int .i64 y],.int .i64 0]) (by simp[results,Tryz.results103,go_sem]) rfl ⟨rfl,rfl⟩
 ·have h':okC x y=false:=by simpa using h
  have e1:inX x y=0:=by unfold inX;rw[h'];rfl
  have e2:inY x y=0:=by unfold inY;rw[h'];rfl
  have e3:ansE x y=50:=by unfold ansE;rw[h'];rfl
  rw[e1,e2,e3]
  have hb:¬ (x.natAbs≤16777216∧y.natAbs≤16777216):=fun hc=>h (kQ.2 hc)
  have h1:x < -16777216∨16777216<x∨y < -16777216∨16777216<y:=by omega
  clear e1 e2 e3 h h' hb
  go_enter Tryz.func103,Tryz.ntmps103
  go_wp2
  all_goals first|(exact bodyPost_ret (v:=.tuple #[.agg #[.int .i64 0,.int .i64 0],.int .i64 50]) (by simp[results,Tryz.results103,go_sem]) rfl ⟨rfl,rfl⟩)|(exfalso;omega)
theorem refz_any (x y:Int) (w:World) :
  Calls Tryz.prog 84 #[.agg #[.int .i64 x,.int .i64 y]] w fun e w'=>e=.returned (.complex .f64 (fl x) (fl y))∧w'=w.alloc (.cells #[.int .i64 x,.int .i64 y] 161):=by
 rw[← rz,← rz]
 go_enter Tryz.func84,Tryz.ntmps84
 go_wp2
 go_ret
 exact⟨rfl,rfl⟩
theorem bal {w w1:World} {o:Obj} (h:Below w.heap.size w w1):Below w.heap.size w (w1.alloc o):=h.alloc h.size o
abbrev Nm (p q:Int):Obj:=.cells #[.int .i64 p,.int .i64 q] 161
theorem keep {W W':World} {b o:Nat} {v:Value} (hb:Below W.heap.size W W') (h:W.cell? ⟨b,o,none⟩=some v):W'.cell? ⟨b,o,none⟩=some v:=by
 have hlt:=World.block_lt_of_cell? (a:=⟨b,o,none⟩) W h
 rw[hb.cell (p:=⟨b,o,none⟩) hlt];exact h
end Go.Proofs.YtimoappbefindaaGreat
