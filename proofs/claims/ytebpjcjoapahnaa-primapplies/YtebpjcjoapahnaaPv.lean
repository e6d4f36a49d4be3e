/-
  A slice of a law's values that came in, opened: how many there are, and how long their lists.
-/
import Derived.Test.YtebpjcjoapahnaaPo
import Derived.Test.YtebpjcjoapahnaaQa
namespace Go.Proofs.Ytebpjcjoapahnaa
open Go.ChangeShapes Go.WideShapes Go.ChangeAt Go.RowKit Go.Joins
open Go.Lib
set_option maxRecDepth 100000

theorem bytesVal : Try.prog.bytesOf 37 = 64 := by kernel_rfl
theorem weights_each {H : Type} {P : Program} {t : TypeId} {p : Nat → Bool} : ∀ {l : List (DataW H)}, (DataW.weightsAll P t l).all p = true → ∀ d ∈ l, (d.weights P t).all p = true := by
  intro l
  induction l with
  | nil => intro _ d hd; simp at hd
  | cons x r ih =>
    intro h d hd
    simp only [DataW.weightsAll, List.all_append, Bool.and_eq_true] at h
    rcases List.mem_cons.1 hd with e | e
    · rw [e]; exact h.1
    · exact ih h.2 d e

theorem open_vals {H : Type} {enc : TypeId × Value → H} {w : World} {r : Reach} {b0 : Nat} {v : Value} {d : DataW H} {p : List MemPlace}
    (hv : Value.okWide Try.prog w r b0 22 v) (h : DataW.Trod enc Try.prog w 0 (fun _ => true) true 22 v d p) (hz : (d.weights Try.prog 22).all (· ≤ reachBytes) = true) :
    ∃ (ao : Option Addr) (cap : Nat) (qs : List Qi), v = .slice ao qs.length cap ∧ Qs w ao qs ∧ (qs.length < 2500000000000 ∧ ∀ i ∈ qs, i.2.2.l.length ≤ 5864062014806) := by
  obtain ⟨a0, n0, c0, rfl⟩ := okWide_slice Try.underlying22 hv
  obtain ⟨fuel, hm⟩ := h
  rcases DataW.trod_slice Try.underlying22 hm with ⟨hcs, hx⟩ | ⟨a, len, cap, elems, rest, n, _, hcs, hx, _, hlc, _, hel, hat, _⟩
  · simp [Value.cells] at hcs
    obtain ⟨rfl, rfl, rfl⟩ := hcs
    exact ⟨none, 0, [], rfl, ⟨fun h => absurd rfl h⟩, by simp, fun i hi => by simp at hi⟩
  · simp [Value.cells] at hcs
    obtain ⟨rfl, rfl, rfl⟩ := hcs
    obtain ⟨b, off, spot⟩ := a
    rw [cellsVal] at hat
    have hd : d = .slice (elems.map (·.1)) (rest.map (·.1)) := congrArg Prod.fst hx
    rw [hd] at hz
    simp only [DataW.weights, Try.underlying22, List.all_cons, Bool.and_eq_true, List.all_append, reachBytes, bytesVal, List.length_map] at hz
    have hz1 := of_decide_eq_true hz.1
    have hz2 := weights_each hz.2.1
    have pre : ∀ i, i < n0 → ∃ q : Qi, (∀ j c, ([.int .i64 q.2.2.t, .int .i64 q.2.2.z.x, .int .i64 q.2.2.z.y, .bool q.2.2.z.r, .bool q.2.2.b, .slice q.1 q.2.2.l.length q.2.1] : List Value)[j]? = some c → w.cell? (((⟨b, off, spot⟩ : Addr).add (i * 6)).add j) = some c) ∧ Nr w q.1 q.2.2.l ∧ q.2.2.l.length ≤ 5864062014806 := by
      intro i hi
      have h1 := hat i hi
      have hlt : i < elems.length := by omega
      rw [List.getElem?_eq_getElem hlt] at h1
      obtain ⟨cs, hc, ht⟩ := Option.bind_eq_some_iff.1 h1
      obtain ⟨ao, cap', q, rfl, hr, hu, hw, _⟩ := open_valC ht
      obtain ⟨_, _, hcell⟩ := World.cells?_some hc
      refine ⟨(ao, cap', q), fun j c hj => ?_, hr, hw (hz2 _ (List.mem_map.2 ⟨_, List.getElem_mem hlt, rfl⟩))⟩
      have hj6 : j < 6 := by
        have := (List.getElem?_eq_some_iff.1 hj).1
        simpa using this
      rw [hcell j hj6]
      exact hj
    have one : ∀ i, i < n0 → ∃ q : Qi, spot = none ∧ Q7 w b (off + i * 6) q ∧ q.2.2.l.length ≤ 5864062014806 := by
      intro i hi
      obtain ⟨q0, c0, _, _⟩ := pre 0 (by omega)
      have hspot : spot = none := by simpa [Addr.add] using World.cell?_spot (c0 0 _ rfl)
      subst hspot
      obtain ⟨q, hc, hr, he⟩ := pre i hi
      have c0 := hc 0 _ rfl
      have c1 := hc 1 _ rfl
      have c2 := hc 2 _ rfl
      have c3 := hc 3 _ rfl
      have c4 := hc 4 _ rfl
      have c5 := hc 5 _ rfl
      simp only [Addr.add_mid] at c0 c1 c2 c3 c4 c5
      exact ⟨q, rfl, ⟨c0, c1, c2, c3, c4, c5, hr⟩, he⟩
    obtain ⟨qs, hql, hq⟩ := exists_list qi0 one
    subst hql
    refine ⟨some ⟨b, off, spot⟩, c0, qs, rfl, ⟨fun hne => ?_⟩, by omega, fun i hi => ?_⟩
    · have hp : 0 < qs.length := List.length_pos_iff.2 hne
      obtain ⟨rfl, _⟩ := hq 0 hp
      exact ⟨b, off, rfl, fun t ht => (hq t ht).2.1⟩
    · obtain ⟨t, ht, e⟩ := List.mem_iff_getElem.1 hi
      have := (hq t ht).2.2
      rw [List.getD_eq_getElem?_getD, List.getElem?_eq_getElem ht] at this
      rw [← e]
      exact this
end Go.Proofs.Ytebpjcjoapahnaa
