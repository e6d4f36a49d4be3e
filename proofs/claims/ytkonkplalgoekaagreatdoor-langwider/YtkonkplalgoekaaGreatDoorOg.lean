/-
  The walk of Parse: what its deferred function does.
-/
import Derived.Test.YtkonkplalgoekaaGreatDoorNd
import Derived.Defers
import Derived.Recover
import Derived.RegionTactic
namespace Go.Proofs.YtkonkplalgoekaaGreatDoor
open Go.RowKit
set_option maxRecDepth 100000

/-- All but two blocks is as it was. -/
structure Two (p q : Nat) (w w' : World) : Prop where
  os : w'.os = w.os
  tape : w'.tape = w.tape
  output : w'.output = w.output
  size : w'.heap.size = w.heap.size
  block : ∀ b, b ≠ p → b ≠ q → w'.heap[b]? = w.heap[b]?

theorem Two.refl (p q : Nat) (w : World) : Two p q w w := ⟨rfl, rfl, rfl, rfl, fun _ _ _ => rfl⟩
theorem Two.setP {p q : Nat} {a b : World} (h : Two p q a b) (j : Nat) (v : Value) : Two p q a (b.setCell ⟨p, j, none⟩ v) :=
  ⟨h.os, h.tape, h.output, by simpa [World.setCell] using h.size, fun i hi hn => by rw [Below.heap_setCell _ _ _ _ hi]; exact h.block i hi hn⟩
theorem Two.setQ {p q : Nat} {a b : World} (h : Two p q a b) (j : Nat) (v : Value) : Two p q a (b.setCell ⟨q, j, none⟩ v) :=
  ⟨h.os, h.tape, h.output, by simpa [World.setCell] using h.size, fun i hi hn => by rw [Below.heap_setCell _ _ _ _ hn]; exact h.block i hi hn⟩
theorem Two.drew {p q : Nat} {a b : World} (h : Two p q a b) : Two p q a b.drew := ⟨h.os, h.tape, h.output, h.size, h.block⟩
theorem Bk.out {w : World} {b g j : Nat} {t : TypeId} {vs : List Value} {v : Value} (h : Bk w b t vs) (hn : b ≠ g) : Bk (w.setCell ⟨g, j, none⟩ v) b t vs := h.oth ((Oth.refl g w).set j v) hn

theorem assert_fault (y a : Int) (W : World) : (Instr.typeAssert (.iface 33 (.agg #[.int .i64 y, .int .i64 a])) 20 33 false).run Tryz.prog W = .ok (.agg #[.int .i64 y, .int .i64 a]) W := by
  first
  | rfl
  | simp [Instr.typeAssert, go_sem]

set_option maxHeartbeats 2000000 in
theorem catch_panicking (p q : Nat) (x u v : Value) (y a : Int) (older : List PanicEntry) (w : World) (hP : Bk w p 30 [x]) (hF : Bk w q 33 [u, v]) (hpq : p ≠ q) :
    CallsD Tryz.prog 20 #[.pointer (some ⟨p, 0, none⟩), .pointer (some ⟨q, 0, none⟩)] (.panicking ({ v := .iface 33 (.agg #[.int .i64 y, .int .i64 a]), recovered := false } :: older)) w fun e u' w' =>
      e = .returned (.tuple #[]) ∧ u' = .panicking ({ v := .iface 33 (.agg #[.int .i64 y, .int .i64 a]), recovered := true } :: older) ∧ Bk w' p 30 [.slice none 0 0] ∧ Bk w' q 33 [.int .i64 y, .int .i64 a] ∧ Two p q w w' := by
  have hta := fun W => assert_fault y a W
  have c0 := hP.cell 0
  have z0 := hP.frz 0
  have d0 := hF.cell 0
  have d1 := hF.cell 1
  have f0 := hF.frz 0
  have f1 := hF.frz 1
  refine callsD_of_wpS Tryz.func20 rfl fun c₀ cs hu => ?_
  apply wpS_seq
  apply wpS_region
  simp [wpOpsS, go_sem, recoverD, hu, Tryz.ntmps20, Exit.thenS]
  apply wpS_seq
  apply wpS_region
  simp [wpOpsS, go_sem, Exit.thenS, Array.replicate]
  refine wpS_cond (t := true) (by simp [Act.eval]) ?_
  simp only [if_true]
  refine wpS_of_wp ?_
  go_region
  all_goals
    have e1 : Bk ((((w.setCell ⟨p, 0, none⟩ (.slice none 0 0)).setCell ⟨q, 0, none⟩ (.int .i64 y)).setCell ⟨q, 1, none⟩ (.int .i64 a))) p 30 [.slice none 0 0] := ((hP.set 0 _).out hpq).out hpq
    have e2 : Bk ((((w.setCell ⟨p, 0, none⟩ (.slice none 0 0)).setCell ⟨q, 0, none⟩ (.int .i64 y)).setCell ⟨q, 1, none⟩ (.int .i64 a))) q 33 [.int .i64 y, .int .i64 a] := ((hF.out (fun e => hpq e.symm)).set 0 _).set 1 _
    have e3 := ((((Two.refl p q w).setP 0 (.slice none 0 0)).setQ 0 (.int .i64 y)).setQ 1 (.int .i64 a)).drew
    simp [bodyPostS, results, Tryz.results20]
    exact ⟨e1, e2, e3⟩

set_option maxHeartbeats 1000000 in
theorem catch_idle (p q : Nat) (w : World) :
    CallsD Tryz.prog 20 #[.pointer (some ⟨p, 0, none⟩), .pointer (some ⟨q, 0, none⟩)] .returning w fun e u' w' => e = .returned (.tuple #[]) ∧ u' = .returning ∧ w' = w := by
  refine callsD_of_wpS Tryz.func20 rfl fun c₀ cs hu => ?_
  apply wpS_seq
  apply wpS_region
  simp [wpOpsS, go_sem, recoverD, hu, Tryz.ntmps20, Exit.thenS]
  apply wpS_seq
  apply wpS_region
  simp [wpOpsS, go_sem, Exit.thenS, Array.replicate]
  refine wpS_cond (t := false) (by simp [Act.eval]) ?_
  simp only [Bool.false_eq_true, if_false]
  refine wpS_of_wp (wp_skip ?_)
  cases c₀
  simp_all [bodyPostS, results, Tryz.results20]

/-- The limits as they count. -/
def cT (t : Int) : Int := min (max t 0) 32768

set_option maxHeartbeats 2000000 in
theorem counted_any (lt lf la ln : Int) (w : World) :
    Calls Tryz.prog 19 #[.agg #[.int .i64 lt, .int .i64 lf, .int .i64 la, .int .i64 ln]] w fun e w' => e = .returned (.agg #[.int .i64 (cT lt), .int .i64 (max lf 0), .int .i64 (max la 0), .int .i64 (max ln 0)]) ∧ Below w.heap.size w w' := by
  go_enter Tryz.func19, Tryz.ntmps19
  go_wp2
  refine bodyPost_ret (v := .agg #[.int .i64 (cT lt), .int .i64 (max lf 0), .int .i64 (max la 0), .int .i64 (max ln 0)]) (by simp [results, Tryz.results19, go_sem, cT]) rfl ⟨rfl, below_two w _ _⟩
end Go.Proofs.YtkonkplalgoekaaGreatDoor
