/-
  3 texts in one: what each proves stands at its head.
-/
import Derived.Test.YtaneibojiamjeaaGreatDoorUkc
import Derived.Sort.Walk0
import Derived.BigQuiet
import Derived.Test.YtaneibojiamjeaaGreatDoorUr
/-
  The document's Sorted: names put in one by one.
-/
namespace Go.Proofs.YtaneibojiamjeaaGreatDoor
open Go.RowKit Go.Maps
set_option maxRecDepth 100000

/-- A name written over one of the call's own names. -/
theorem OwN.set {w : World} {B : Nat} {v : Value} {xs : List (List UInt8)} (h : OwN w B v xs) {j : Nat} (hj : j < xs.length) (s : List UInt8) :
    ∃ g c, v = .slice (some ⟨g, 0, none⟩) xs.length c ∧ B ≤ g ∧ g < w.heap.size ∧ w.frozen? ⟨g, j, none⟩ = false ∧ w.cell? ⟨g, j, none⟩ = some (.string (bs (xs.getD j []))) ∧ OwN (w.setCell ⟨g, j, none⟩ (.string (bs s))) B v (xs.set j s) ∧ Oth g w (w.setCell ⟨g, j, none⟩ (.string (bs s))) := by
  rcases h.2 with ⟨_, h0⟩ | ⟨g, c, cur, rfl, hb, hg, h1, h2, h3, h4⟩
  · omega
  · have hB : Bk w g 9 cur.toList := by unfold Bk; rw [Array.toArray_toList]; exact hg
    have hc := hB.cell j
    have h5 : (cur.toList.take (xs.length * 1))[j]? = some (.string (bs (xs.getD j []))) := by
      rw [h4, List.getElem?_map, List.getElem?_eq_getElem hj, List.getD_eq_getElem?_getD, List.getElem?_eq_getElem hj]
      rfl
    rw [List.getElem?_take_of_lt (by omega)] at h5
    refine ⟨g, c, rfl, hb, hB.lt, hB.frz j, hc.trans h5, ⟨by simp, .inr ⟨g, c, (cur.toList.set j (.string (bs s))).toArray, by rw [List.length_set], hb, hB.set j _, by rw [List.length_set]; exact h1, h2, by simp; omega, ?_⟩⟩, (Oth.refl g w).set j _⟩
    rw [List.length_set, List.toList_toArray, List.take_set, h4, List.map_set]
theorem srt_len {L o : List (List UInt8)} (h : IsSrt L o) : o.length ≤ L.length := by
  have key : ∀ (s t : List (List UInt8)), s.Nodup → (∀ x ∈ s, x ∈ t) → s.length ≤ t.length := by
    intro s
    induction s with
    | nil => exact fun _ _ _ => Nat.zero_le _
    | cons x s ih =>
      intro t hn hs
      have h0 := List.nodup_cons.1 hn
      have h1 := ih (t.erase x) h0.2 fun y hy => (List.mem_erase_of_ne (fun e => by subst e; exact h0.1 hy)).2 (hs y (List.mem_cons_of_mem _ hy))
      have hx := hs x List.mem_cons_self
      rw [List.length_erase_of_mem hx] at h1
      have := List.length_pos_of_mem hx
      simp only [List.length_cons]
      omega
  exact key o L h.nodup fun x hx => (h.2 x).1 hx
theorem OwN.put {w : World} {B g n c : Nat} {xs : List (List UInt8)} (h : OwN w B (.slice (some ⟨g, 0, none⟩) n c) xs) {j : Nat} (hj : j < xs.length) (s : List UInt8) :
    w.frozen? ⟨g, j, none⟩ = false ∧ w.cell? ⟨g, j, none⟩ = some (.string (bs (xs.getD j []))) ∧ OwN (w.setCell ⟨g, j, none⟩ (.string (bs s))) B (.slice (some ⟨g, 0, none⟩) n c) (xs.set j s) ∧ Below B w (w.setCell ⟨g, j, none⟩ (.string (bs s))) := by
  obtain ⟨g', c', e, h1, h2, h3, h4, h5, h6⟩ := h.set hj s
  cases e
  exact ⟨h3, h4, h5, h6.below h1⟩
end Go.Proofs.YtaneibojiamjeaaGreatDoor
/-
  The document's Free and Uses.
-/
namespace Go.Proofs.YtaneibojiamjeaaGreatDoor
open Go.RowKit Go.Maps
set_option maxRecDepth 100000

/-- The name that stands at an expression. -/
def nmX : Ex → List UInt8 | .mk _ name _ _ _ _ _ _ => name
/-- The names of the free ones among those that were seen. -/
def fsY (ys : List (Ex × Bool)) : List (List UInt8) := (ys.filter (·.2)).map fun y => nmX y.1
theorem fsY_len (ys : List (Ex × Bool)) : (fsY ys).length ≤ ys.length := by
  unfold fsY
  rw [List.length_map]
  exact List.length_filter_le _ _
/-- The document's free names of an expression. -/
def fsE (x : Ex) : List (List UInt8) := fsY (snE [] x)

end Go.Proofs.YtaneibojiamjeaaGreatDoor
/-
  The document's Names: within, Names.
-/
namespace Go.Proofs.YtaneibojiamjeaaGreatDoor
open Go.RowKit Go.Maps
set_option maxRecDepth 100000

end Go.Proofs.YtaneibojiamjeaaGreatDoor
