/-
  10 texts in one: what each proves stands at its head.
-/
import Derived.Laws.FloatArith
import Derived.Laws.ComplexArith
import Derived.Test.YtkbglnhdbnijlaaRows
import Derived.WalkKit
import Derived.WalkSpells
import Derived.WalkLawsBesides
import Derived.Laws.Externs
import Derived.Deep.QuietTactic
import Derived.BigQuiet
namespace Go.Proofs.Ytkbglnhdbnijlaa
open Ieee
def fl (n:Int):Nat:=double.nearest (decide (n<0)) n.natAbs 0
theorem fl_zero:fl 0=0:=rfl
def nb (b:Nat):Int:=((double.read b).toInt .zero).getD 0
def vp (b:Nat):Bool:=decide ((nb b).natAbs≤16777216)&&fl (nb b)==b
end Go.Proofs.Ytkbglnhdbnijlaa
namespace Go.Proofs.Ytkbglnhdbnijlaa
open Go.RowKit
open Ieee
theorem ret_bool {a b:Bool} (h:a=b):Ending.returned (.bool a)=.returned (.bool b):=by rw[h]
theorem fl_conv (n:Int):floatOfInt .f64 n=fl n:=rfl
def okC (x y:Int):Bool:=decide (x.natAbs≤16777216)&&decide (y.natAbs≤16777216)
def ansE (x y:Int):Int:=if okC x y then 0 else 50
end Go.Proofs.Ytkbglnhdbnijlaa
namespace Go.Proofs.Ytkbglnhdbnijlaa
open Go.RowKit
open Ieee
theorem okC_iff {x y:Int}:okC x y=true↔x.natAbs≤16777216∧y.natAbs≤16777216:=by
 unfold okC;simp
def vc (a b:Nat):Bool:=vp a&&vp b
def zb (raw:Bool) (n:Int):Nat:=if raw then (IntKind.u64.wrap n).toNat else fl n
end Go.Proofs.Ytkbglnhdbnijlaa
namespace Go.Proofs.Ytkbglnhdbnijlaa
open Go.RowKit
open Ieee
end Go.Proofs.Ytkbglnhdbnijlaa
namespace Go.Proofs.Ytkbglnhdbnijlaa
open Go.RowKit
open Ieee
end Go.Proofs.Ytkbglnhdbnijlaa
namespace Go.Proofs.Ytkbglnhdbnijlaa
open Go.RowKit
open Ieee
end Go.Proofs.Ytkbglnhdbnijlaa
namespace Go.Proofs.Ytkbglnhdbnijlaa
open Go.RowKit
open Ieee
end Go.Proofs.Ytkbglnhdbnijlaa
namespace Go.Proofs.Ytkbglnhdbnijlaa
open Go.RowKit
open Ieee
end Go.Proofs.Ytkbglnhdbnijlaa
namespace Go.Proofs.Ytkbglnhdbnijlaa
open Go.RowKit
open Ieee
theorem bcell {W w1:World} (hb:Below W.heap.size W w1):(∀ b o,b<W.heap.size→w1.cell? ⟨b,o,none⟩=W.cell? ⟨b,o,none⟩)∧(∀ b o,b<W.heap.size→w1.frozen? ⟨b,o,none⟩=W.frozen? ⟨b,o,none⟩):=
 ⟨fun b o h=>hb.cell (p:=⟨b,o,none⟩) h,fun b o h=>hb.frozen (p:=⟨b,o,none⟩) h⟩
def inX (x y:Int):Int:=if okC x y then x else 0
def inY (x y:Int):Int:=if okC x y then y else 0
set_option maxHeartbeats 400000 in
theorem in_any (x y:Int) (w:World) :
  Calls Try.prog 78 #[.agg #[.int .i64 x,.int .i64 y]] w fun e w'=>e=.returned (.tuple #[.agg #[.int .i64 (inX x y),.int .i64 (inY x y)],.int .i64 (ansE x y)])∧w'=(w.alloc (.cells #[.int .i64 x,.int .i64 y] 127)).alloc (.cells #[.int .i64 (inX x y),.int .i64 (inY x y)] 127):=by
 by_cases h:okC x y=true
 ·have e1:inX x y=x:=by unfold inX;rw[h];rfl
  have e2:inY x y=y:=by unfold inY;rw[h];rfl
  have e3:ansE x y=0:=by unfold ansE;rw[h];rfl
  rw[e1,e2,e3]
  obtain⟨b1,b2⟩:=okC_iff.1 h
  have h1:¬ x < -16777216:=by omega
  have h2:¬ 16777216<x:=by omega
  have h3:¬ y < -16777216:=by omega
  have h4:¬ 16777216<y:=by omega
  clear e1 e2 e3 h b1 b2
  go_enter Try.func78,Try.ntmps78
  go_wp2
  exact bodyPost_ret (v:=.tuple #[.agg #[.int .i64 x,.int .i64 y],.int .i64 0]) (by simp[results,Try.results78,go_sem]) rfl ⟨rfl,rfl⟩
 ·have h':okC x y=false:=by simpa using h
  have e1:inX x y=0:=by unfold inX;rw[h'];rfl
  have e2:inY x y=0:=by unfold inY;rw[h'];rfl
  have e3:ansE x y=50:=by unfold ansE;rw[h'];rfl
  rw[e1,e2,e3]
  have hb:¬ (x.natAbs≤16777216∧y.natAbs≤16777216):=fun hc=>h (okC_iff.2 hc)
  have h1:x < -16777216∨16777216<x∨y < -16777216∨16777216<y:=by omega
  clear e1 e2 e3 h h' hb
  go_enter Try.func78,Try.ntmps78
  go_wp2
  all_goals first|(exact bodyPost_ret (v:=.tuple #[.agg #[.int .i64 0,.int .i64 0],.int .i64 50]) (by simp[results,Try.results78,go_sem]) rfl ⟨rfl,rfl⟩)|(exfalso;omega)
set_option maxHeartbeats 400000 in
theorem refz_any (x y:Int) (w:World) :
  Calls Try.prog 62 #[.agg #[.int .i64 x,.int .i64 y]] w fun e w'=>e=.returned (.complex .f64 (fl x) (fl y))∧w'=w.alloc (.cells #[.int .i64 x,.int .i64 y] 127):=by
 rw[← fl_conv,← fl_conv]
 go_enter Try.func62,Try.ntmps62
 go_wp2
 go_ret
 exact⟨rfl,rfl⟩
theorem bal {w w1:World} {o:Obj} (h:Below w.heap.size w w1):Below w.heap.size w (w1.alloc o):=h.alloc h.size o
end Go.Proofs.Ytkbglnhdbnijlaa
namespace Go.Proofs.Ytkbglnhdbnijlaa
open Go.RowKit
open Ieee
abbrev Nm (p q:Int):Obj:=.cells #[.int .i64 p,.int .i64 q] 127
theorem keep {W W':World} {b o:Nat} {v:Value} (hb:Below W.heap.size W W') (h:W.cell? ⟨b,o,none⟩=some v):W'.cell? ⟨b,o,none⟩=some v:=by
 have hlt:=World.block_lt_of_cell? (a:=⟨b,o,none⟩) W h
 rw[hb.cell (p:=⟨b,o,none⟩) hlt];exact h
end Go.Proofs.Ytkbglnhdbnijlaa
