/-
  A law's numbers and values that came in, opened.
-/
import Derived.Test.YtebpjcjoapahnaaVm
import Derived.ProofKit
import Derived.OpenShut
import Derived.Lib.SmallJoins
import Derived.SizedLaws
import Derived.Carry
import Derived.Deep.DeepHandedRow
namespace Go.Proofs.Ytebpjcjoapahnaa
open Go.ChangeShapes Go.WideShapes Go.ChangeAt Go.RowKit Go.Joins
open Go.Lib
set_option maxRecDepth 100000

theorem own : ownKnob Try.prog.godebug = none := by kernel_rfl
theorem laidOut : laidOutB Try.prog = true := by kernel_rfl

theorem one_le {H : Type} (d : DataW H) : 1 ≤ Rows.uptoBulk d := by
  cases d with
  | lit l => cases l <;> simp [Rows.uptoBulk]
  | nil => simp [Rows.uptoBulk]
  | ptr d => simp [Rows.uptoBulk]
  | slice elems spare => simp [Rows.uptoBulk]
  | agg parts => simp [Rows.uptoBulk]
  | iface t d => simp [Rows.uptoBulk]
  | map entries => simp [Rows.uptoBulk]
  | held h => simp [Rows.uptoBulk]

theorem length_le {H : Type} (l : List (DataW H)) : l.length ≤ Rows.uptoBulkAll l := by
  induction l with
  | nil => simp [Rows.uptoBulkAll]
  | cons x r ih => have := one_le x; simp only [Rows.uptoBulkAll, List.length_cons]; omega

theorem exists_list {α : Type} (d : α) {n : Nat} {P : Nat → α → Prop} (h : ∀ i, i < n → ∃ q, P i q) : ∃ qs : List α, qs.length = n ∧ ∀ i, i < n → P i (qs.getD i d) := by
  induction n with
  | zero => exact ⟨[], rfl, fun i hi => absurd hi (Nat.not_lt_zero _)⟩
  | succ n ih =>
    obtain ⟨qs, hl, hq⟩ := ih (fun i hi => h i (by omega))
    obtain ⟨q, hqn⟩ := h n (by omega)
    refine ⟨qs ++ [q], by simp [hl], fun i hi => ?_⟩
    by_cases hin : i < n
    · have := hq i hin
      rw [List.getD_eq_getElem?_getD] at this ⊢
      rw [List.getElem?_append_left (by omega)]
      exact this
    · have : i = n := by omega
      subst this
      rw [List.getD_eq_getElem?_getD, List.getElem?_append_right (by omega), hl]
      simpa using hqn

theorem cellsNum : Try.prog.cellsOf 34 = 3 := by kernel_rfl
theorem bytesNum : Try.prog.bytesOf 34 = 24 := by kernel_rfl
theorem cellsVal : Try.prog.cellsOf 37 = 6 := by kernel_rfl

theorem open_num {H : Type} {enc : TypeId × Value → H} {w : World} {base : Nat} {sp : Nat → Bool} {held : Bool} {fuel : Nat} {cs : List Value} {x : DataW H × List MemPlace}
    (h : DataW.trod enc Try.prog w base sp held fuel 34 cs = some x) : ∃ q : Nq, cs = [.int .i64 q.x, .int .i64 q.y, .bool q.r] := by
  obtain ⟨y0, y1, y2, n, rfl, hl, h0, h1, h2⟩ := Go.Deep.trod_struct3 Try.underlying34 h
  rw [cellsNum] at hl
  match cs, hl with
  | [c0, c1, c2], _ =>
    simp only [show Try.prog.cellsOf 3 = 1 by kernel_rfl, show Try.prog.cellsOf 4 = 1 by kernel_rfl, List.drop_zero, List.drop_succ_cons, List.take_succ_cons, List.take_zero] at h0 h1 h2
    obtain ⟨a, e0, _, _⟩ := DataW.trod_int Try.underlying3 h0
    obtain ⟨b, e1, _, _⟩ := DataW.trod_int Try.underlying3 h1
    obtain ⟨r, e2, _⟩ := DataW.trod_bool Try.underlying4 h2
    simp at e0 e1 e2
    exact ⟨⟨a, b, r⟩, by rw [e0, e1, e2]⟩

/-- A slice of a law's numbers, opened. -/
theorem open_nums {H : Type} {enc : TypeId × Value → H} {w : World} {sp : Nat → Bool} {held : Bool} {fuel : Nat} {c : Value} {x : DataW H × List MemPlace}
    (h : DataW.trod enc Try.prog w 0 sp held fuel 35 [c] = some x) :
    ∃ (ao : Option Addr) (cap : Nat) (qs : List Nq), c = .slice ao qs.length cap ∧ Nr w ao qs ∧ qs.length ≤ Rows.uptoBulk x.1 ∧ ((x.1.weights Try.prog 35).all (· ≤ reachBytes) = true → qs.length ≤ 5864062014806) ∧ qs.length ≤ cap ∧ (ao = none → cap = 0) := by
  rcases DataW.trod_slice Try.underlying35 h with ⟨hcs, rfl⟩ | ⟨a, len, cap, elems, rest, n, _, hcs, rfl, _, hlc, _, hel, hat, _⟩
  · simp at hcs
    subst hcs
    exact ⟨none, 0, [], rfl, ⟨fun h => absurd rfl h⟩, by simp, fun _ => by simp, Nat.le_refl _, fun _ => rfl⟩
  · simp at hcs
    subst hcs
    obtain ⟨b, off, spot⟩ := a
    rw [cellsNum] at hat
    have pre : ∀ i, i < len → ∃ q : Nq, w.cell? (((⟨b, off, spot⟩ : Addr).add (i * 3)).add 0) = some (.int .i64 q.x) ∧ w.cell? (((⟨b, off, spot⟩ : Addr).add (i * 3)).add 1) = some (.int .i64 q.y) ∧ w.cell? (((⟨b, off, spot⟩ : Addr).add (i * 3)).add 2) = some (.bool q.r) := by
      intro i hi
      have h1 := hat i hi
      have hlt : i < elems.length := by omega
      rw [List.getElem?_eq_getElem hlt] at h1
      obtain ⟨cs, hc, ht⟩ := Option.bind_eq_some_iff.1 h1
      obtain ⟨q, rfl⟩ := open_num ht
      obtain ⟨_, _, hcell⟩ := World.cells?_some hc
      exact ⟨q, hcell 0 (by decide), hcell 1 (by decide), hcell 2 (by decide)⟩
    have one : ∀ i, i < len → ∃ q : Nq, spot = none ∧ N3 w b (off + i * 3) q := by
      intro i hi
      obtain ⟨q0, c0, _, _⟩ := pre 0 (by omega)
      have hspot : spot = none := by simpa [Addr.add] using World.cell?_spot c0
      subst hspot
      obtain ⟨q, c0, c1, c2⟩ := pre i hi
      simp only [Addr.add_mid] at c0 c1 c2
      exact ⟨q, rfl, c0, c1, c2⟩
    obtain ⟨qs, hql, hq⟩ := exists_list qn one
    subst hql
    refine ⟨some ⟨b, off, spot⟩, cap, qs, rfl, ⟨fun hne => ?_⟩, ?_, ?_, hlc, fun e => by cases e⟩
    · have hp : 0 < qs.length := List.length_pos_iff.2 hne
      obtain ⟨rfl, _⟩ := hq 0 hp
      exact ⟨b, off, rfl, fun t ht => (hq t ht).2⟩
    · have := length_le (elems.map (·.1))
      simp only [Rows.uptoBulk]
      rw [List.length_map] at this
      omega
    · intro hz
      simp only [DataW.weights, Try.underlying35, List.all_cons, Bool.and_eq_true, reachBytes, bytesNum, List.length_map] at hz
      have hz1 := of_decide_eq_true hz.1
      omega

/-- A law's value, opened. -/
theorem open_valC {H : Type} {enc : TypeId × Value → H} {w : World} {sp : Nat → Bool} {held : Bool} {fuel : Nat} {cs : List Value} {x : DataW H × List MemPlace}
    (h : DataW.trod enc Try.prog w 0 sp held fuel 37 cs = some x) :
    ∃ (ao : Option Addr) (cap : Nat) (q : Qv), cs = [.int .i64 q.t, .int .i64 q.z.x, .int .i64 q.z.y, .bool q.z.r, .bool q.b, .slice ao q.l.length cap] ∧ Nr w ao q.l ∧ q.l.length ≤ Rows.uptoBulk x.1 ∧
      ((x.1.weights Try.prog 37).all (· ≤ reachBytes) = true → q.l.length ≤ 5864062014806) ∧ (Lit.int .i64 q.t).wf = true := by
  obtain ⟨y0, y1, y2, y3, n, rfl, hl, h0, h1, h2, h3⟩ := trod_struct4 Try.underlying37 h
  rw [cellsVal] at hl
  match cs, hl with
  | [c0, c1, c2, c3, c4, c5], _ =>
    simp only [show Try.prog.cellsOf 3 = 1 by kernel_rfl, show Try.prog.cellsOf 4 = 1 by kernel_rfl, cellsNum, show Try.prog.cellsOf 35 = 1 by kernel_rfl, List.drop_zero, List.drop_succ_cons, List.take_succ_cons, List.take_zero] at h0 h1 h2 h3
    obtain ⟨t, e0, rfl, wt⟩ := DataW.trod_int Try.underlying3 h0
    obtain ⟨z, e1⟩ := open_num h1
    obtain ⟨b, e2, rfl⟩ := DataW.trod_bool Try.underlying4 h2
    obtain ⟨ao, cap, qs, rfl, hr, hu, hw, _, _⟩ := open_nums h3
    simp at e0 e1 e2
    refine ⟨ao, cap, ⟨t, z, b, qs⟩, by rw [e0, e1.1, e1.2.1, e1.2.2, e2], hr, ?_, ?_, wt⟩
    · simp only [Rows.uptoBulk, Rows.uptoBulkAll]
      omega
    · intro hz
      apply hw
      simp only [DataW.weights, Try.underlying37, List.map_cons, List.map_nil, DataW.weightsEach, List.all_append, Bool.and_eq_true] at hz
      exact hz.2.2.2.1

theorem open_val {H : Type} {enc : TypeId × Value → H} {w : World} {r : Reach} {b0 : Nat} {v : Value} {d : DataW H} {p : List MemPlace}
    (hv : Value.okWide Try.prog w r b0 37 v) (h : DataW.Trod enc Try.prog w 0 (fun _ => true) true 37 v d p) :
    ∃ (ao : Option Addr) (cap : Nat) (q : Qv), v = qV ao cap q ∧ Nr w ao q.l ∧ q.l.length ≤ Rows.uptoBulk d ∧ ((d.weights Try.prog 37).all (· ≤ reachBytes) = true → q.l.length ≤ 5864062014806) ∧ (Lit.int .i64 q.t).wf = true := by
  obtain ⟨cs, rfl, _⟩ := okWide_struct Try.underlying37 hv
  obtain ⟨fuel, hf⟩ := h
  obtain ⟨ao, cap, q, e, hr, hu, hw, wt⟩ := open_valC hf
  refine ⟨ao, cap, q, ?_, hr, hu, hw, wt⟩
  unfold qV
  congr 1
  apply Array.ext'
  simpa [Value.cells] using e

/-- A law's number that came in. -/
theorem open_numT {H : Type} {enc : TypeId × Value → H} {w : World} {r : Reach} {b0 : Nat} {v : Value} {d : DataW H} {p : List MemPlace}
    (hv : Value.okWide Try.prog w r b0 34 v) (h : DataW.Trod enc Try.prog w 0 (fun _ => true) true 34 v d p) :
    ∃ q : Nq, v = .agg #[.int .i64 q.x, .int .i64 q.y, .bool q.r] := by
  obtain ⟨cs, rfl, _⟩ := okWide_struct Try.underlying34 hv
  obtain ⟨fuel, hf⟩ := h
  obtain ⟨q, e⟩ := open_num hf
  refine ⟨q, ?_⟩
  congr 1
  apply Array.ext'
  simpa [Value.cells] using e
end Go.Proofs.Ytebpjcjoapahnaa
