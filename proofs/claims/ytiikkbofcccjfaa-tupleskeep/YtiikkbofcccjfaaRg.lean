/-
  The walks of fathomref02.Get and Count.
-/
import Derived.Test.YtiikkbofcccjfaaMk
namespace Go.Proofs.Ytiikkbofcccjfaa
open Go.RowKit
open RowsM
set_option maxRecDepth 100000

theorem Ri.up {w w' : World} {ao : Option Addr} {cs : List Nat} (h : Ri w ao cs) (hb : Below w.heap.size w w') : Ri w' ao cs := by
  intro hz
  obtain ⟨b, off, rfl, hc⟩ := h hz
  have hl := h.lt_block hz
  exact ⟨b, off, rfl, fun t ht => by rw [hb.cell hl]; exact hc t ht⟩

theorem cellsL_len (n : Int) (xs : List Nat) : (cellsL n xs).length = n.toNat := by simp [cellsL]
theorem cellsL_at (n : Int) (xs : List Nat) (t : Nat) (ht : t < n.toNat) : (cellsL n xs).getD t 0 = cellAt xs t := by
  simp [cellsL, List.getD_eq_getElem?_getD, ht]
theorem cellsL_le (n : Int) (xs : List Nat) : ∀ c, c ∈ cellsL n xs → c ≤ 3 := by
  intro c hc
  unfold cellsL at hc
  rw [List.mem_map] at hc
  obtain ⟨i, _, rfl⟩ := hc
  have := cellAt_lt xs i
  omega

theorem getV_at {n : Int} {xs : List Nat} {i : Int} (h : okR n xs = true) (hi : inR n i = true) : getV n xs i = cellAt xs i.toNat := by
  have hi' : 0 ≤ i ∧ i < n := by simpa [inR] using hi
  unfold getV cellAt
  rw [h, hi]
  simp only [Bool.and_self, if_true]
  have e1 : (i / 32).toNat = i.toNat / 32 := by omega
  have e2 : (i % 32).toNat = i.toNat % 32 := by omega
  rw [e1, e2]

theorem cells_ok (n : Int) (ao : Option Addr) (ca : Nat) (xs cs : List Nat) (w : World) (hok : okR n xs = true) (hcs : cellsL n xs = cs) (h : Rd w ao xs) (hl : xs.length ≤ 17592186043904) :
    Calls Try.prog 41 #[.agg #[.int .i64 n, .slice ao xs.length ca]] w fun e w' => ∃ v, e = .returned (.tuple #[v, .bool true]) ∧ Oi w' (w.heap.size + 1) v cs ∧ Below w.heap.size w w' := by
  have := cells_any n ao ca xs w h hl
  rw [hok] at this
  refine this.mono ?_
  rintro e w' ⟨v, h1, h2, _, h4⟩
  rw [← hcs]
  exact ⟨v, h1, h2 rfl, h4⟩

def IntsEnd (V E : Int) (w : World) (e : Ending) (w' : World) : Prop := e = .returned (.tuple #[.int .i64 V, .int .i64 E]) ∧ Below w.heap.size w w'

/-- How many cells hold v. -/
def tally (cs : List Nat) (v : Nat) : Nat := (cs.map fun c => if c = v then 1 else 0).sum

theorem tally_take (cs : List Nat) (v k : Nat) (hk : k < cs.length) : tally (cs.take (k + 1)) v = tally (cs.take k) v + if cs.getD k 0 = v then 1 else 0 := by
  unfold tally
  rw [List.take_succ_eq_append_getElem hk, List.map_append, List.sum_append]
  simp [List.getD_eq_getElem?_getD, hk]

theorem tally_le (cs : List Nat) (v : Nat) : tally cs v ≤ cs.length := by
  induction cs with
  | nil => simp [tally]
  | cons c cs ih =>
    unfold tally at *
    simp only [List.map_cons, List.sum_cons, List.length_cons]
    split <;> omega

theorem tally_range (f : Nat → Nat) (a b v : Nat) : tally ((List.range (a + b)).map f) v = tally ((List.range a).map f) v + tally ((List.range b).map fun j => f (a + j)) v := by
  unfold tally
  rw [List.range_add, List.map_append, List.map_append, List.sum_append]
  simp only [List.map_map, Function.comp_def]

/-- Word by word, or cell by cell. -/
theorem tally_words (xs : List Nat) (v : Nat) : ∀ k, k ≤ xs.length → tally ((List.range (32 * k)).map (cellAt xs)) v = countL (xs.take k) v
  | 0, _ => by simp [tally, countL]
  | k + 1, h => by
    have e : 32 * (k + 1) = 32 * k + 32 := by omega
    rw [e, tally_range, tally_words xs v k (by omega), countL_take xs v k (by omega)]
    have h2 : List.map ((fun c => if c = v then 1 else 0) ∘ fun j => cellAt xs (32 * k + j)) (List.range 32) = List.map (fun j => if cell (xs.getD k 0) j = v then 1 else 0) (List.range 32) := by
      refine List.map_congr_left fun j hj => ?_
      have hj' := List.mem_range.1 hj
      show (if cellAt xs (32 * k + j) = v then 1 else 0) = _
      unfold cellAt
      have e1 : (32 * k + j) / 32 = k := by omega
      have e2 : (32 * k + j) % 32 = j := by omega
      rw [e1, e2]
    have h3 : tally ((List.range 32).map fun j => cellAt xs (32 * k + j)) v = cnt (xs.getD k 0) v := by
      unfold tally cnt S32
      rw [List.map_map, h2]
    rw [h3]

theorem tally_row {n : Int} {xs : List Nat} (hb : Bd xs) (h : okR n xs = true) (v : Nat) : (tally (cellsL n xs) v : Int) = (countL xs v : Int) - (if v = 0 then 32 * (xs.length : Int) - n else 0) := by
  have hr := h
  simp only [okR, decide_eq_true_eq] at hr
  obtain ⟨n0, n1, hln, _⟩ := hr
  have hz := (okR_cells hb n0 n1 hln).1 h
  have hw := tally_words xs v xs.length (Nat.le_refl _)
  rw [List.take_length] at hw
  have e : 32 * xs.length = n.toNat + (32 * xs.length - n.toNat) := by omega
  rw [e, tally_range] at hw
  have ht : tally ((List.range (32 * xs.length - n.toNat)).map fun j => cellAt xs (n.toNat + j)) v = if v = 0 then 32 * xs.length - n.toNat else 0 := by
    have : ((List.range (32 * xs.length - n.toNat)).map fun j => cellAt xs (n.toNat + j)) = List.replicate (32 * xs.length - n.toNat) 0 := by
      apply List.ext_getElem
      · simp
      · intro i h1 h2
        simp at h1
        simp only [List.getElem_map, List.getElem_range, List.getElem_replicate]
        exact hz _ (by omega) (by omega)
    rw [this]
    unfold tally
    rw [List.map_replicate, List.sum_replicate_nat]
    split
    · rename_i h0; subst h0; simp
    · rename_i h0; rw [if_neg (fun x => h0 x.symm)]; simp
  rw [ht] at hw
  unfold cellsL
  rw [← hw]
  split <;> omega

end Go.Proofs.Ytiikkbofcccjfaa
