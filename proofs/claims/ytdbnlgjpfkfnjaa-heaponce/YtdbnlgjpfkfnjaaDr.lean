/-
  A law's calls and scripts that came in, opened.
-/
import Derived.Test.YtdbnlgjpfkfnjaaDp
import Derived.ProofKit
import Derived.OpenShut
import Derived.Lib.SmallJoins
import Derived.SizedLaws
import Derived.Carry
import Derived.Deep.DeepHandedRow
namespace Go.Proofs.Ytdbnlgjpfkfnjaa
open Go.ChangeShapes Go.WideShapes Go.ChangeAt Go.RowKit Go.Joins
open Go.Lib
set_option maxRecDepth 100000

theorem own : ownKnob Try.prog.godebug = none := by kernel_rfl
theorem laidOut : laidOutB Try.prog = true := by kernel_rfl

theorem exists_list {α : Type} (d : α) {n : Nat} {P : Nat → α → Prop} (h : ∀ i, i < n → ∃ q, P i q) : ∃ qs : List α, qs.length = n ∧ ∀ i, i < n → P i (qs.getD i d) := by
  induction n with
  | zero => exact ⟨[], rfl, fun i hi => absurd hi (Nat.not_lt_zero _)⟩
  | succ n ih =>
    obtain ⟨qs, hl, hq⟩ := ih (fun i hi => h i (by omega))
    obtain ⟨q, hqn⟩ := h n (by omega)
    refine ⟨qs ++ [q], by simp [hl], fun i hi => ?_⟩
    by_cases hin : i < n
    · have := hq i hin
      rw [List.getD_eq_getElem?_getD] at this ⊢
      rw [List.getElem?_append_left (by omega)]
      exact this
    · have : i = n := by omega
      subst this
      rw [List.getD_eq_getElem?_getD, List.getElem?_append_right (by omega), hl]
      simpa using hqn

theorem cellsNum : Try.prog.cellsOf 33 = 3 := by kernel_rfl
theorem cellsLc : Try.prog.cellsOf 35 = 6 := by kernel_rfl
theorem cellsAk : Try.prog.cellsOf 37 = 14 := by kernel_rfl
theorem bytesAk : Try.prog.bytesOf 37 = 112 := by kernel_rfl
theorem cellsInt : Try.prog.cellsOf 3 = 1 := by kernel_rfl
theorem cellsBool : Try.prog.cellsOf 4 = 1 := by kernel_rfl

theorem open_num {H : Type} {enc : TypeId × Value → H} {w : World} {base : Nat} {sp : Nat → Bool} {held : Bool} {fuel : Nat} {cs : List Value} {x : DataW H × List MemPlace}
    (h : DataW.trod enc Try.prog w base sp held fuel 33 cs = some x) : ∃ (a b : Int) (r : Bool), cs = [.int .i64 a, .int .i64 b, .bool r] := by
  obtain ⟨y0, y1, y2, n, rfl, hl, h0, h1, h2⟩ := Go.Deep.trod_struct3 Try.underlying33 h
  rw [cellsNum] at hl
  match cs, hl with
  | [c0, c1, c2], _ =>
    simp only [cellsInt, cellsBool, List.drop_zero, List.drop_succ_cons, List.take_succ_cons, List.take_zero] at h0 h1 h2
    obtain ⟨a, e0, _, _⟩ := DataW.trod_int Try.underlying3 h0
    obtain ⟨b, e1, _, _⟩ := DataW.trod_int Try.underlying3 h1
    obtain ⟨r, e2, _⟩ := DataW.trod_bool Try.underlying4 h2
    simp at e0 e1 e2
    exact ⟨a, b, r, by rw [e0, e1, e2]⟩
theorem open_lc {H : Type} {enc : TypeId × Value → H} {w : World} {base : Nat} {sp : Nat → Bool} {held : Bool} {fuel : Nat} {cs : List Value} {x : DataW H × List MemPlace}
    (h : DataW.trod enc Try.prog w base sp held fuel 35 cs = some x) : ∃ q : Lc, cs = [.int .i64 q.k, .int .i64 q.a, .int .i64 q.x, .int .i64 q.y, .bool q.r, .bool q.b] := by
  obtain ⟨y0, y1, y2, y3, n, rfl, hl, h0, h1, h2, h3⟩ := trod_struct4 Try.underlying35 h
  rw [cellsLc] at hl
  match cs, hl with
  | [c0, c1, c2, c3, c4, c5], _ =>
    simp only [cellsInt, cellsBool, cellsNum, List.drop_zero, List.drop_succ_cons, List.take_succ_cons, List.take_zero] at h0 h1 h2 h3
    obtain ⟨a, e0, _, _⟩ := DataW.trod_int Try.underlying3 h0
    obtain ⟨b, e1, _, _⟩ := DataW.trod_int Try.underlying3 h1
    obtain ⟨p, q, r, e2⟩ := open_num h2
    obtain ⟨t, e3, _⟩ := DataW.trod_bool Try.underlying4 h3
    simp at e0 e1 e2 e3
    exact ⟨⟨a, b, p, q, r, t⟩, by rw [e0, e1, e2.1, e2.2.1, e2.2.2, e3]⟩
theorem open_ak {H : Type} {enc : TypeId × Value → H} {w : World} {base : Nat} {sp : Nat → Bool} {held : Bool} {fuel : Nat} {cs : List Value} {x : DataW H × List MemPlace}
    (h : DataW.trod enc Try.prog w base sp held fuel 37 cs = some x) : ∃ q : Ak, cs = akC q := by
  obtain ⟨y0, y1, y2, y3, n, rfl, hl, h0, h1, h2, h3⟩ := trod_struct4 Try.underlying37 h
  rw [cellsAk] at hl
  match cs, hl with
  | [c0, c1, c2, c3, c4, c5, c6, c7, c8, c9, c10, c11, c12, c13], _ =>
    simp only [cellsInt, cellsLc, List.drop_zero, List.drop_succ_cons, List.take_succ_cons, List.take_zero] at h0 h1 h2 h3
    obtain ⟨a, e0, _, _⟩ := DataW.trod_int Try.underlying3 h0
    obtain ⟨b, e1, _, _⟩ := DataW.trod_int Try.underlying3 h1
    obtain ⟨p, e2⟩ := open_lc h2
    obtain ⟨q, e3⟩ := open_lc h3
    simp at e0 e1 e2 e3
    refine ⟨⟨a, b, p, q⟩, ?_⟩
    unfold akC
    rw [e0, e1, e2.1, e2.2.1, e2.2.2.1, e2.2.2.2.1, e2.2.2.2.2.1, e2.2.2.2.2.2, e3.1, e3.2.1, e3.2.2.1, e3.2.2.2.1, e3.2.2.2.2.1, e3.2.2.2.2.2]
/-- A call that came in. -/
theorem open_act {H : Type} {enc : TypeId × Value → H} {w : World} {r : Reach} {b0 : Nat} {v : Value} {d : DataW H} {p : List MemPlace}
    (hv : Value.okWide Try.prog w r b0 37 v) (h : DataW.Trod enc Try.prog w 0 (fun _ => true) true 37 v d p) :
    ∃ q : Ak, v = akV q := by
  obtain ⟨cs, rfl, _⟩ := okWide_struct Try.underlying37 hv
  obtain ⟨fuel, hf⟩ := h
  obtain ⟨q, e⟩ := open_ak hf
  refine ⟨q, ?_⟩
  unfold akV
  congr 1
  apply Array.ext'
  simpa [Value.cells, akC] using e
/-- A script, as it lies. -/
structure Sc (w : World) (ao : Option Addr) (qs : List Ak) : Prop where
  pl : qs ≠ [] → ∃ b off, ao = some ⟨b, off, none⟩ ∧ ∀ i, i < qs.length → w.rangeAt b (off + i * 14) (akC (qs.getD i ⟨0, 0, ⟨0, 0, 0, 0, false, false⟩, ⟨0, 0, 0, 0, false, false⟩⟩))
theorem open_acts {H : Type} {enc : TypeId × Value → H} {w : World} {r : Reach} {b0 : Nat} {v : Value} {d : DataW H} {p : List MemPlace}
    (hv : Value.okWide Try.prog w r b0 22 v) (h : DataW.Trod enc Try.prog w 0 (fun _ => true) true 22 v d p) (hz : (d.weights Try.prog 22).all (· ≤ reachBytes) = true) :
    ∃ (ao : Option Addr) (cap : Nat) (qs : List Ak), v = .slice ao qs.length cap ∧ Sc w ao qs ∧ qs.length ≤ cap ∧ cap ≤ maxLen ∧ qs.length < 1260000000000 := by
  obtain ⟨a0, n0, c0, rfl⟩ := okWide_slice Try.underlying22 hv
  obtain ⟨fuel, hm⟩ := h
  rcases DataW.trod_slice Try.underlying22 hm with ⟨hcs, hx⟩ | ⟨a, len, cap, elems, rest, n, _, hcs, hx, _, hlc, hcm, hel, hat, _⟩
  · simp [Value.cells] at hcs
    obtain ⟨rfl, rfl, rfl⟩ := hcs
    exact ⟨none, 0, [], rfl, ⟨fun h => absurd rfl h⟩, Nat.le_refl _, Nat.zero_le _, by simp⟩
  · simp [Value.cells] at hcs
    obtain ⟨rfl, rfl, rfl⟩ := hcs
    obtain ⟨b, off, spot⟩ := a
    rw [cellsAk] at hat
    have hd : d = .slice (elems.map (·.1)) (rest.map (·.1)) := congrArg Prod.fst hx
    rw [hd] at hz
    simp only [DataW.weights, Try.underlying22, List.all_cons, Bool.and_eq_true, List.all_append, reachBytes, bytesAk, List.length_map] at hz
    have hz1 := of_decide_eq_true hz.1
    have pre : ∀ i, i < n0 → ∃ q : Ak, ∀ j c, (akC q)[j]? = some c → w.cell? (((⟨b, off, spot⟩ : Addr).add (i * 14)).add j) = some c := by
      intro i hi
      have h1 := hat i hi
      have hlt : i < elems.length := by omega
      rw [List.getElem?_eq_getElem hlt] at h1
      obtain ⟨cs, hc, ht⟩ := Option.bind_eq_some_iff.1 h1
      obtain ⟨q, rfl⟩ := open_ak ht
      obtain ⟨_, _, hcell⟩ := World.cells?_some hc
      refine ⟨q, fun j c hj => ?_⟩
      have hj14 : j < 14 := by
        have := (List.getElem?_eq_some_iff.1 hj).1
        simpa [akC] using this
      rw [hcell j hj14]
      exact hj
    have one : ∀ i, i < n0 → ∃ q : Ak, spot = none ∧ w.rangeAt b (off + i * 14) (akC q) := by
      intro i hi
      obtain ⟨q0, c0⟩ := pre 0 (by omega)
      have hspot : spot = none := by simpa [Addr.add] using World.cell?_spot (c0 0 _ rfl)
      subst hspot
      obtain ⟨q, hc⟩ := pre i hi
      refine ⟨q, rfl, fun j c hj => ?_⟩
      have := hc j c hj
      simpa only [Addr.add_mid] using this
    obtain ⟨qs, hql, hq⟩ := exists_list ⟨0, 0, ⟨0, 0, 0, 0, false, false⟩, ⟨0, 0, 0, 0, false, false⟩⟩ one
    subst hql
    refine ⟨some ⟨b, off, spot⟩, c0, qs, rfl, ⟨fun hne => ?_⟩, hlc, hcm, by omega⟩
    have hp : 0 < qs.length := List.length_pos_iff.2 hne
    obtain ⟨rfl, _⟩ := hq 0 hp
    exact ⟨b, off, rfl, fun t ht => (hq t ht).2⟩
end Go.Proofs.Ytdbnlgjpfkfnjaa
