/-
  The start that fits, and how an argument is opened: what each of this seat's rows needs.
-/
import Derived.Test.YtlenlhlcnidgpaaDoorRows
import Derived.Test.YtlenlhlcnidgpaaDoorCards
import Derived.Test.YtlenlhlcnidgpaaDoorTie
import Derived.ProofKit
import Derived.LaidMore
import Derived.OpenShut
import Derived.Stop.Joined
import Derived.SevenTiedAt
import Derived.Lib.SmallJoins
namespace Go.Proofs.YtlenlhlcnidgpaaDoor
open Go.ChangeShapes Go.WideShapes Go.ChangeAt Go.RowKit Go.Joins
set_option maxRecDepth 100000

theorem own : ownKnob Tryd.prog.godebug = none := by kernel_rfl
theorem cellsNum : Tryd.prog.cellsOf 23 = 3 := by kernel_rfl

/-- An argument of type Num, opened. -/
theorem open_num {H : Type} {enc : TypeId × Value → H} {w : World} {base : Nat} {spare : Nat → Bool} {held : Bool} {r : Reach} {b0 : Nat} {v : Value} {d : DataW H} {p : List MemPlace}
    (hv : Value.okWide Tryd.prog w r b0 23 v) (h : DataW.Trod enc Tryd.prog w base spare held 23 v d p) :
    ∃ (x y : Int) (b : Bool), v = .agg #[.int .i64 x, .int .i64 y, .bool b] ∧ d = .agg [.lit (.int .i64 x), .lit (.int .i64 y), .lit (.bool b)] ∧ p = [] ∧ (Lit.int .i64 x).wf = true ∧ (Lit.int .i64 y).wf = true := by
  obtain ⟨v0, v1, v2, y0, y1, y2, n, rfl, rfl, rfl, h0, h1, h2⟩ := open_agg3 Tryd.underlying23 (by kernel_rfl) cellsNum hv h
  obtain ⟨x, e0, rfl, wx⟩ := DataW.trod_int Tryd.underlying3 h0
  obtain ⟨y, e1, rfl, wy⟩ := DataW.trod_int Tryd.underlying3 h1
  obtain ⟨b, e2, rfl⟩ := DataW.trod_bool Tryd.underlying4 h2
  simp at e0 e1 e2
  subst e0 e1 e2
  exact ⟨x, y, b, rfl, rfl, rfl, wx, wy⟩

/-- An argument of type Num, shut. -/
theorem shut_num {H : Type} {enc : TypeId × Value → H} {w : World} {base : Nat} {spare : Nat → Bool} {held : Bool} {x y : Int} {b : Bool} (wx : (Lit.int .i64 x).wf = true) (wy : (Lit.int .i64 y).wf = true) :
    DataW.Trod enc Tryd.prog w base spare held 23 (.agg #[.int .i64 x, .int .i64 y, .bool b]) (.agg [.lit (.int .i64 x), .lit (.int .i64 y), .lit (.bool b)]) [] :=
  shut_agg3 (y0 := (.lit (.int .i64 x), [])) (y1 := (.lit (.int .i64 y), [])) (y2 := (.lit (.bool b), [])) Tryd.underlying23 (by kernel_rfl) cellsNum
    ⟨1, by simp [DataW.trod, Tryd.underlying3, wx]⟩ ⟨1, by simp [DataW.trod, Tryd.underlying3, wy]⟩ ⟨1, by simp [DataW.trod, Tryd.underlying4]⟩
end Go.Proofs.YtlenlhlcnidgpaaDoor
