/-
  A script that came in, opened, with what its ints are.
-/
import Derived.Test.YtdbnlgjpfkfnjaaEd
namespace Go.Proofs.Ytdbnlgjpfkfnjaa
open Go.ChangeShapes Go.WideShapes Go.ChangeAt Go.RowKit Go.Joins
open Go.Lib
set_option maxRecDepth 100000

theorem open_ak2 {H : Type} {enc : TypeId × Value → H} {w : World} {base : Nat} {sp : Nat → Bool} {held : Bool} {fuel : Nat} {cs : List Value} {x : DataW H × List MemPlace}
    (h : DataW.trod enc Try.prog w base sp held fuel 37 cs = some x) : ∃ q : Ak, cs = akC q ∧ (Lit.int .i64 q.a).wf = true := by
  obtain ⟨y0, y1, y2, y3, n, rfl, hl, h0, h1, h2, h3⟩ := trod_struct4 Try.underlying37 h
  rw [cellsAk] at hl
  match cs, hl with
  | [c0, c1, c2, c3, c4, c5, c6, c7, c8, c9, c10, c11, c12, c13], _ =>
    simp only [cellsInt, cellsLc, List.drop_zero, List.drop_succ_cons, List.take_succ_cons, List.take_zero] at h0 h1 h2 h3
    obtain ⟨a, e0, _, _⟩ := DataW.trod_int Try.underlying3 h0
    obtain ⟨b, e1, _, wb⟩ := DataW.trod_int Try.underlying3 h1
    obtain ⟨p, e2⟩ := open_lc h2
    obtain ⟨q, e3⟩ := open_lc h3
    simp at e0 e1 e2 e3
    refine ⟨⟨a, b, p, q⟩, ?_, wb⟩
    unfold akC
    rw [e0, e1, e2.1, e2.2.1, e2.2.2.1, e2.2.2.2.1, e2.2.2.2.2.1, e2.2.2.2.2.2, e3.1, e3.2.1, e3.2.2.1, e3.2.2.2.1, e3.2.2.2.2.1, e3.2.2.2.2.2]
theorem open_acts2 {H : Type} {enc : TypeId × Value → H} {w : World} {r : Reach} {b0 : Nat} {v : Value} {d : DataW H} {p : List MemPlace}
    (hv : Value.okWide Try.prog w r b0 22 v) (h : DataW.Trod enc Try.prog w 0 (fun _ => true) true 22 v d p) (hz : (d.weights Try.prog 22).all (· ≤ reachBytes) = true) :
    ∃ (ao : Option Addr) (cap : Nat) (qs : List Ak), v = .slice ao qs.length cap ∧ Sc w ao qs ∧ (∀ i, i < qs.length → (Lit.int .i64 (qs.getD i akz).a).wf = true) ∧ qs.length < 1260000000000 := by
  obtain ⟨a0, n0, c0, rfl⟩ := okWide_slice Try.underlying22 hv
  obtain ⟨fuel, hm⟩ := h
  rcases DataW.trod_slice Try.underlying22 hm with ⟨hcs, hx⟩ | ⟨a, len, cap, elems, rest, n, _, hcs, hx, _, hlc, hcm, hel, hat, _⟩
  · simp [Value.cells] at hcs
    obtain ⟨rfl, rfl, rfl⟩ := hcs
    exact ⟨none, 0, [], rfl, ⟨fun h => absurd rfl h⟩, fun i hi => by simp at hi, by simp⟩
  · simp [Value.cells] at hcs
    obtain ⟨rfl, rfl, rfl⟩ := hcs
    obtain ⟨b, off, spot⟩ := a
    rw [cellsAk] at hat
    have hd : d = .slice (elems.map (·.1)) (rest.map (·.1)) := congrArg Prod.fst hx
    rw [hd] at hz
    simp only [DataW.weights, Try.underlying22, List.all_cons, Bool.and_eq_true, List.all_append, reachBytes, bytesAk, List.length_map] at hz
    have hz1 := of_decide_eq_true hz.1
    have pre : ∀ i, i < n0 → ∃ q : Ak, (∀ j c, (akC q)[j]? = some c → w.cell? (((⟨b, off, spot⟩ : Addr).add (i * 14)).add j) = some c) ∧ (Lit.int .i64 q.a).wf = true := by
      intro i hi
      have h1 := hat i hi
      have hlt : i < elems.length := by omega
      rw [List.getElem?_eq_getElem hlt] at h1
      obtain ⟨cs, hc, ht⟩ := Option.bind_eq_some_iff.1 h1
      obtain ⟨q, rfl, hq⟩ := open_ak2 ht
      obtain ⟨_, _, hcell⟩ := World.cells?_some hc
      refine ⟨q, fun j c hj => ?_, hq⟩
      have hj14 : j < 14 := by
        have := (List.getElem?_eq_some_iff.1 hj).1
        simpa [akC] using this
      rw [hcell j hj14]
      exact hj
    have one : ∀ i, i < n0 → ∃ q : Ak, spot = none ∧ w.rangeAt b (off + i * 14) (akC q) ∧ (Lit.int .i64 q.a).wf = true := by
      intro i hi
      obtain ⟨q0, c0, _⟩ := pre 0 (by omega)
      have hspot : spot = none := by simpa [Addr.add] using World.cell?_spot (c0 0 _ rfl)
      subst hspot
      obtain ⟨q, hc, hq⟩ := pre i hi
      refine ⟨q, rfl, fun j c hj => ?_, hq⟩
      have := hc j c hj
      simpa only [Addr.add_mid] using this
    obtain ⟨qs, hql, hq⟩ := exists_list akz one
    subst hql
    refine ⟨some ⟨b, off, spot⟩, c0, qs, rfl, ⟨fun hne => ?_⟩, fun i hi => (hq i hi).2.2, by omega⟩
    have hp : 0 < qs.length := List.length_pos_iff.2 hne
    obtain ⟨rfl, _⟩ := hq 0 hp
    exact ⟨b, off, rfl, fun t ht => (hq t ht).2.1⟩
end Go.Proofs.Ytdbnlgjpfkfnjaa
