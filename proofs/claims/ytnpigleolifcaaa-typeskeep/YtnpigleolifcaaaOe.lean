/-
  The walk of definition.
-/
import Derived.Test.YtnpigleolifcaaaUL
import Derived.Deep.DeepCutAuto
import Derived.Deep.RegionWith
namespace Go.Proofs.Ytnpigleolifcaaa
open Go.RowKit
set_option maxRecDepth 100000

abbrev fz : Array Value := #[.string ⟨#[]⟩, .slice none 0 0, .int .i64 0, .int .i64 0, .string ⟨#[]⟩, .string ⟨#[]⟩, .int .i64 0, .complex .f64 0 0, .slice none 0 0, .int .i64 0, .int .i64 0]
theorem Try.infoFn : (Try.prog.info? 42).map (·.size) = some 11 := by kernel_rfl
theorem Try.underFn : Try.prog.underlying 42 = some (.struct (Try.prog.underlying 42 |>.map (fun | .struct f => f | _ => #[]) |>.getD #[])) := by kernel_rfl

/-- These eleven cells are the definition, its parts in memory, in blocks of which A holds. -/
def FnW (w : World) (A : Nat → Prop) (g : Fn1) (vs : List Value) : Prop :=
  ∃ ao c es, vs = .string (bs g.name) :: .slice ao g.pms.length c :: .int .i64 g.ty :: (es ++ [.int .i64 g.pos]) ∧ PlW w A ao g.pms ∧ ExW w A g.body es
theorem Bk.eleven {w : World} {b : Nat} {t : TypeId} {x0 x1 x2 x3 x4 x5 x6 x7 x8 x9 x10 : Value} (h : Bk w b t [x0, x1, x2, x3, x4, x5, x6, x7, x8, x9, x10]) :
    w.cell? ⟨b, 0, none⟩ = some x0 ∧ w.cell? ⟨b, 1, none⟩ = some x1 ∧ w.cell? ⟨b, 2, none⟩ = some x2 ∧ w.cell? ⟨b, 3, none⟩ = some x3 ∧ w.cell? ⟨b, 4, none⟩ = some x4 ∧ w.cell? ⟨b, 5, none⟩ = some x5 ∧ w.cell? ⟨b, 6, none⟩ = some x6 ∧ w.cell? ⟨b, 7, none⟩ = some x7 ∧ w.cell? ⟨b, 8, none⟩ = some x8 ∧ w.cell? ⟨b, 9, none⟩ = some x9 ∧ w.cell? ⟨b, 10, none⟩ = some x10 :=
  ⟨h.cell 0, h.cell 1, h.cell 2, h.cell 3, h.cell 4, h.cell 5, h.cell 6, h.cell 7, h.cell 8, h.cell 9, h.cell 10⟩
end Go.Proofs.Ytnpigleolifcaaa
