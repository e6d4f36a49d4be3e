/-
  2 texts in one: what each proves stands at its head.
-/
import Derived.Test.YtimoappbefindaaGreatUM
import Derived.Deep.DeepCutAuto
import Derived.Deep.RegionHeld3
import Derived.Test.YtimoappbefindaaGreatUO
namespace Go.Proofs.YtimoappbefindaaGreat
open Go.RowKit
set_option maxRecDepth 100000
theorem lv {l:List UInt8} {lt lf la ln:Int} {f B:Nat} {e:Ending} {w':World} (h:paV l lt lf la ln f B e w') (hf:∀ ms,cut rdN l 0=.ok ms→aS (mf ms) ⟨max lf 0,max la 0,max ln 0⟩ f [] 0≠.out) :
  (cT lt<l.length∧e=.returned (fw 22 (cT lt)))∨(l.length≤cT lt∧∃ k,cut rdN l 0=.bad k∧e=.returned (fw 20 k)) ∨
  (l.length≤cT lt∧∃ ms gs j,cut rdN l 0=.ok ms∧aS (mf ms) ⟨max lf 0,max la 0,max ln 0⟩ f [] 0=.ok gs j∧∃ ao c,e=.returned (.tuple #[.agg #[.slice ao gs.length c],.agg #[.int .i64 0,.int .i64 0]])∧FlW w' (fun b=>B≤b) ao gs) ∨
  (l.length≤cT lt∧∃ ms y k,cut rdN l 0=.ok ms∧aS (mf ms) ⟨max lf 0,max la 0,max ln 0⟩ f [] 0=.bad y k∧e=.returned (fw y (mf ms k).at_)):=by
 unfold paV at h
 by_cases hb:cT lt<l.length
 ·rw[if_pos hb] at h
  exact .inl ⟨hb,h⟩
 ·rw[if_neg hb] at h
  refine .inr ?_
  have hle:(l.length:Int)≤cT lt:=by omega
  cases hc:cut rdN l 0 with
  |bad k=>
   rw[hc] at h
   exact .inl ⟨hle,k,rfl,h⟩
  |ok ms=>
   rw[hc] at h
   dsimp only at h
   cases hq:aS (mf ms) ⟨max lf 0,max la 0,max ln 0⟩ f [] 0 with
   |out=>exact absurd hq (hf ms hc)
   |ok gs j=>
    rw[hq] at h
    obtain⟨ao,c,e1,hf1,_⟩:=h
    exact .inr (.inl ⟨hle,ms,gs,j,rfl,hq,ao,c,e1,hf1⟩)
   |bad y k=>
    rw[hq] at h
    exact .inr (.inr ⟨hle,ms,y,k,rfl,hq,h⟩)
theorem sK:cT 32768=32768:=by decide
section
variable {w0 w w':World} {O G H:Nat} {t f a n g h:Int}
end
end Go.Proofs.YtimoappbefindaaGreat
