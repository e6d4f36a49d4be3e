/-
  2 texts in one: what each proves stands at its head.
-/
import Derived.Test.YtimoappbefindaaGreatUM
import Derived.Test.YtimoappbefindaaGreatUV
import Derived.Test.YtimoappbefindaaGreatUI
import Derived.Test.YtimoappbefindaaGreatUO
import Derived.Test.YtimoappbefindaaGreatUA
namespace Go.Proofs.YtimoappbefindaaGreat
open Go.RowKit
set_option maxRecDepth 100000
theorem paV_shape {l:List UInt8} {lt lf la ln:Int} {f B:Nat} {e:Ending} {w':World} (h:paV l lt lf la ln f B e w') (hf:∀ ms,cut rdN l 0=.ok ms→aS (mf ms) ⟨max lf 0,max la 0,max ln 0⟩ f [] 0≠.out) :
  ∃ (ao:Option Addr) (n c:Nat) (y a:Int),e=.returned (.tuple #[.agg #[.slice ao n c],.agg #[.int .i64 y,.int .i64 a]]):=by
 rcases lv h hf with⟨_,h⟩|⟨_,k,_,h⟩|⟨_,ms,gs,j,_,_,ao,c,h,_⟩|⟨_,ms,y,k,hc,hq,h⟩
 all_goals exact⟨_,_,_,_,_,h⟩
section
variable {W0 wp:World} {l:List UInt8} {lt lf la ln:Int} {F B gp gf:Nat} {ao1:Option Addr} {n1 cc1:Nat} {y1 a1:Int} (hpp:paV l lt lf la ln F B (.returned (.tuple #[.agg #[.slice ao1 n1 cc1],.agg #[.int .i64 y1,.int .i64 a1]])) wp) (hB:Below W0.heap.size W0 wp) (h1:W0.heap.size≤B)
include hpp hB h1
end
structure Fr (w:World) (A:Nat→Prop) (ao:Option Addr) (gs:List Fn1):Prop where
 row:∀ k,k<gs.length→∃ g off vs,ao=some ⟨g,off,none⟩∧A g∧w.rangeAt g (off+k*11) vs∧FnW w A (gs.getD k fd) vs
theorem FlW.fr {w:World} {A:Nat→Prop} {ao:Option Addr} {gs:List Fn1} (h:FlW w A ao gs):Fr w A ao gs:=by
 refine⟨fun k hk=>?_⟩
 obtain⟨g,vs,e,hA,hr,hf⟩:=h.at k hk
 exact⟨g,0,vs,e,hA,by rw[Nat.zero_add];exact hr,hf⟩
set_option maxHeartbeats 1000000 in
theorem wide_any (w:World):Calls Tryz.prog 26 #[] w fun e w'=>e=.returned (.agg #[.int .i64 32768,.int .i64 32768,.int .i64 32768,.int .i64 32768])∧Below w.heap.size w w':=by
 go_enter Tryz.func26,Tryz.ntmps26
 go_wp2
 refine bodyPost_ret (v:=.agg #[.int .i64 32768,.int .i64 32768,.int .i64 32768,.int .i64 32768]) (by simp[results,Tryz.results26,go_sem]) rfl ⟨rfl,ae _ _⟩
end Go.Proofs.YtimoappbefindaaGreat
