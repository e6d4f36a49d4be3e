/-
  The walk of LangJoined.
-/
import Derived.Test.YtndgglhppoijnaaGreatDoorUV
import Derived.Test.YtndgglhppoijnaaGreatDoorSe
import Derived.Test.YtndgglhppoijnaaGreatDoorBm
import Derived.Test.YtndgglhppoijnaaGreatDoorBl
import Derived.Test.YtndgglhppoijnaaGreatDoorGj
import Derived.Test.YtndgglhppoijnaaGreatDoorUM
import Derived.Deep.RegionHeld3
import Derived.Deep.DeepCutAuto
namespace Go.Proofs.YtndgglhppoijnaaGreatDoor
open Go.RowKit
set_option maxRecDepth 100000

theorem paV_okc {l : List UInt8} {lt lf la ln : Int} {f B : Nat} {e : Ending} {w' : World} (h : paV l lt lf la ln f B e w') {ms : List Mk} {gs : List Fn1} {j : Nat} (hle : (l.length : Int) ≤ cT lt) (hc : cut rdN l 0 = .ok ms) (hq : progL (mf ms) ⟨max lf 0, max la 0, max ln 0⟩ f [] 0 = .ok gs j) :
    ∃ ao c, e = .returned (.tuple #[.agg #[.slice ao gs.length c], .agg #[.int .i64 0, .int .i64 0]]) ∧ FlW w' (fun b => B ≤ b) ao gs ∧ gs.length ≤ c := by
  unfold paV at h
  rw [if_neg (by omega), hc] at h
  dsimp only at h
  rw [hq] at h
  exact h

theorem i64_smallJ (x : Int) (h0 : 0 ≤ x) (h1 : x ≤ 10000000) : IntKind.i64.wrap x = x := by rw [IntKind.wrap_i64]; omega
theorem fn_pos {w : World} {A : Nat → Prop} {g : Fn1} {vs : List Value} (h : FnW w A g vs) : vs[10]? = some (.int .i64 g.pos) := by
  obtain ⟨ao, c, es, rfl, _, h2⟩ := h
  obtain ⟨e0, e1, e2, e3, e4, e5, e6, rfl⟩ := list7 h2.len
  rfl
theorem run_slice_hiF (b o len cap n : Nat) (h : n ≤ cap) (w : World) : (Instr.slice 27 (.slice (some ⟨b, o, none⟩) len cap) none (some (.int .i64 (n : Int))) none).run Tryz.prog w = .ok (.slice (some ⟨b, o, none⟩) n cap) w := by
  simp [Instr.slice, Instr.sliceBounds, Instr.sliceBound, asIntOf, h, run_underlying Tryz.underFs, go_sem]
theorem run_slice_loF (b o len cap n : Nat) (h : n ≤ len) (_h2 : len ≤ cap) (h3 : n < cap) (w : World) : (Instr.slice 27 (.slice (some ⟨b, o, none⟩) len cap) (some (.int .i64 (n : Int))) none none).run Tryz.prog w = .ok (.slice (some ⟨b, o + n * 11, none⟩) (len - n) (cap - n)) w := by
  have hs : (sizeOf 43).run Tryz.prog w = .ok 11 w := by
    have := Tryz.infoFn
    cases hq : Tryz.prog.info? 43 with
    | none => simp [hq] at this
    | some i => rw [hq] at this; simp at this; simp [sizeOf, typeInfo, hq, this]
  have h4 : ¬ cap = n := by omega
  simp [Instr.slice, Instr.sliceBounds, Instr.sliceBound, asIntOf, h, hs, h4, run_underlying Tryz.underFs, go_sem, Addr.add_mid]

abbrev LW : Array Value := #[.int .i64 32768, .int .i64 32768, .int .i64 32768, .int .i64 32768]

end Go.Proofs.YtndgglhppoijnaaGreatDoor
