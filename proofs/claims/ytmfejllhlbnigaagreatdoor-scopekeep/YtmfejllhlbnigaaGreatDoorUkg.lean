/-
  2 texts in one: what each proves stands at its head.
-/
import Derived.Test.YtmfejllhlbnigaaGreatDoorUN
import Derived.Test.YtmfejllhlbnigaaGreatDoorUk
import Derived.SliceStrings
import Derived.SizedLaws
import Derived.Test.YtmfejllhlbnigaaGreatDoorUkf
import Derived.Test.YtmfejllhlbnigaaGreatDoorUke
/-
  A slice of strings among a law's arguments, opened; how many they may be.
-/
namespace Go.Proofs.YtmfejllhlbnigaaGreatDoor
open Go.ChangeShapes Go.WideShapes Go.ChangeAt Go.RowKit Go.Joins
set_option maxRecDepth 100000

theorem cellsStr : Tryz.prog.cellsOf 9 = 1 := by kernel_rfl
theorem bytesStr : Tryz.prog.bytesOf 9 = 16 := by kernel_rfl
theorem open_names {H : Type} {enc : TypeId × Value → H} {w : World} {r : Reach} {b0 : Nat} {v : Value} {d : DataW H} {p : List MemPlace} {ts : List TypeId} {ds : List (DataW H)}
    (hs : (DataW.weightsEach Tryz.prog ts ds).all (· ≤ reachBytes) = true) {j : Nat} (ht : ts[j]? = some 35) (hd : ds[j]? = some d) (hv : Value.okWide Tryz.prog w r b0 35 v) (h : DataW.Trod enc Tryz.prog w 0 (fun _ => true) true 35 v d p) :
    ∃ (ao : Option Addr) (cap : Nat) (xs : List (List UInt8)), v = .slice ao xs.length cap ∧ Ns w ao xs ∧ (ao = none → cap = 0) ∧ xs.length ≤ 8796093021952 ∧ ∀ s ∈ xs, s.length ≤ maxLen := by
  obtain ⟨a0, n0, c0, rfl⟩ := okWide_slice Tryz.underlying35 hv
  obtain ⟨fuel, hm⟩ := h
  rcases open_strings Tryz.underlying35 Tryz.underlying9 cellsStr hm with ⟨hcs, hx⟩ | ⟨a, len, cap, ss, hcs, _, hl, hmx, hzs, hx, hcell, hwz⟩
  · simp [Value.cells] at hcs
    obtain ⟨rfl, rfl, rfl⟩ := hcs
    exact ⟨none, 0, [], rfl, Ns.nil _ _, fun _ => rfl, by simp, fun s h => by cases h⟩
  · simp [Value.cells] at hcs
    obtain ⟨rfl, rfl, rfl⟩ := hcs
    simp only [if_true] at hzs
    have he : d = .slice (strs (ss.take n0)) (strs (ss.drop n0)) := congrArg Prod.fst hx
    rw [he] at hd
    have hb := sized_slice hs ht hd Tryz.underlying35
    have e1 : (strs (H := H) (ss.take n0)).length = n0 := by simp [strs]; omega
    have hxl : ((ss.take n0).map fun s => s.data.toList).length = n0 := by rw [List.length_map, List.length_take]; omega
    refine ⟨some a, c0, (ss.take n0).map fun s => s.data.toList, by rw [hxl], fun i s hi => ?_, (fun e => by cases e), ?_, fun s hs => ?_⟩
    · have hin : i < n0 := by have := (List.getElem?_eq_some_iff.1 hi).1; omega
      have hc := hcell i (by omega)
      obtain ⟨b, off, spot⟩ := a
      have hspot : spot = none := by simpa [Addr.add] using World.cell?_spot (hcell 0 (by omega))
      subst hspot
      refine ⟨b, off, rfl, ?_⟩
      rw [Addr.add_mid] at hc
      rw [hc]
      rw [List.getElem?_map, List.getElem?_take_of_lt hin, List.getElem?_eq_getElem (by omega)] at hi
      simp only [Option.map_some, Option.some.injEq] at hi
      rw [List.getD_eq_getElem?_getD, List.getElem?_eq_getElem (by omega), ← hi]
      simp [bs]
    · rw [hxl]
      rw [bytesStr, e1] at hb
      unfold reachBytes at hb
      omega
    · obtain ⟨x, hx1, rfl⟩ := List.mem_map.1 hs
      have := hwz x (List.mem_of_mem_take hx1)
      rw [Array.length_toList]
      exact this
end Go.Proofs.YtmfejllhlbnigaaGreatDoor
/-
  The walk of ScopeFresh.
-/
namespace Go.Proofs.YtmfejllhlbnigaaGreatDoor
open Go.RowKit Go.Maps
set_option maxRecDepth 100000

theorem OwN.cap {w : World} {B : Nat} {v : Value} {xs : List (List UInt8)} (h : OwN w B v xs) : ∀ ao c, v = .slice ao xs.length c → xs.length ≤ c := fun ao c e => by
  rcases h.2 with ⟨e1, h0⟩ | ⟨g, c', cur, e1, hb, hg, h1, _⟩
  · omega
  · rw [e] at e1
    cases e1
    exact h1
theorem Ns.take {w : World} {ao : Option Addr} {xs : List (List UInt8)} (h : Ns w ao xs) (k : Nat) : Ns w ao (xs.take k) := fun j s hj => by
  rw [List.getElem?_take] at hj
  split at hj
  · exact h j s hj
  · cases hj
end Go.Proofs.YtmfejllhlbnigaaGreatDoor
