/-
  A slice of bools that came in, opened.
-/
import Derived.Test.YtdbnlgjpfkfnjaaEa
namespace Go.Proofs.Ytdbnlgjpfkfnjaa
open Go.ChangeShapes Go.WideShapes Go.ChangeAt Go.RowKit Go.Joins
open Go.Lib
set_option maxRecDepth 100000

theorem open_bools {H : Type} {enc : TypeId × Value → H} {w : World} {r : Reach} {b0 : Nat} {v : Value} {d : DataW H} {p : List MemPlace}
    (hv : Value.okWide Try.prog w r b0 40 v) (h : DataW.Trod enc Try.prog w 0 (fun _ => true) true 40 v d p) :
    ∃ (ao : Option Addr) (cap : Nat) (ts : List Bool), v = .slice ao ts.length cap ∧ Bs w ao ts ∧ ts.length ≤ cap ∧ cap ≤ maxLen := by
  obtain ⟨a0, n0, c0, rfl⟩ := okWide_slice Try.underlying40 hv
  obtain ⟨fuel, hm⟩ := h
  rcases DataW.trod_slice Try.underlying40 hm with ⟨hcs, hx⟩ | ⟨a, len, cap, elems, rest, n, _, hcs, hx, _, hlc, hcm, hel, hat, _⟩
  · simp [Value.cells] at hcs
    obtain ⟨rfl, rfl, rfl⟩ := hcs
    exact ⟨none, 0, [], rfl, ⟨fun h => absurd rfl h⟩, Nat.le_refl _, Nat.zero_le _⟩
  · simp [Value.cells] at hcs
    obtain ⟨rfl, rfl, rfl⟩ := hcs
    obtain ⟨b, off, spot⟩ := a
    rw [cellsBool] at hat
    have pre : ∀ i, i < n0 → ∃ q : Bool, w.cell? (((⟨b, off, spot⟩ : Addr).add (i * 1)).add 0) = some (.bool q) := by
      intro i hi
      have h1 := hat i hi
      have hlt : i < elems.length := by omega
      rw [List.getElem?_eq_getElem hlt] at h1
      obtain ⟨cs, hc, ht⟩ := Option.bind_eq_some_iff.1 h1
      obtain ⟨q, rfl, _⟩ := DataW.trod_bool Try.underlying4 ht
      obtain ⟨_, _, hcell⟩ := World.cells?_some hc
      exact ⟨q, hcell 0 (by decide)⟩
    have one : ∀ i, i < n0 → ∃ q : Bool, spot = none ∧ w.cell? ⟨b, off + i, none⟩ = some (.bool q) := by
      intro i hi
      obtain ⟨q0, c0⟩ := pre 0 (by omega)
      have hspot : spot = none := by simpa [Addr.add] using World.cell?_spot c0
      subst hspot
      obtain ⟨q, hc⟩ := pre i hi
      simp only [Addr.add_mid, Nat.mul_one, Nat.add_zero] at hc
      exact ⟨q, rfl, hc⟩
    obtain ⟨qs, hql, hq⟩ := exists_list false one
    subst hql
    refine ⟨some ⟨b, off, spot⟩, c0, qs, rfl, ⟨fun hne => ?_⟩, hlc, hcm⟩
    have hp : 0 < qs.length := List.length_pos_iff.2 hne
    obtain ⟨rfl, _⟩ := hq 0 hp
    exact ⟨b, off, rfl, fun t ht => (hq t ht).2⟩
end Go.Proofs.Ytdbnlgjpfkfnjaa
