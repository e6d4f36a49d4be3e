/-
  A row that came in, opened: its number of cells, its words, where they lie; none takes more than the form's reach.
-/
import Derived.Test.YtmckdefemdcknaaRa
import Derived.ProofKit
import Derived.OpenShut
import Derived.Lib.SmallJoins
import Derived.SizedLaws
import Derived.Carry
namespace Go.Proofs.Ytmckdefemdcknaa
open Go.ChangeShapes Go.WideShapes Go.ChangeAt Go.RowKit Go.Joins

theorem own : ownKnob Try.prog.godebug = none := by kernel_rfl
theorem laidOut : laidOutB Try.prog = true := by kernel_rfl
theorem cellsRow : Try.prog.cellsOf 24 = 2 := by kernel_rfl
theorem cellsWord : Try.prog.cellsOf 55 = 1 := by kernel_rfl
theorem bytesWord : Try.prog.bytesOf 55 = 8 := by kernel_rfl

theorem rd_of_ints {w : World} {a : Addr} {len : Nat} {zs : List Int} (hl : len ≤ zs.length) (hc : ∀ i, i < zs.length → w.cell? (a.add i) = some (.int .u64 (zs.getD i 0))) (hw : ∀ n ∈ zs, (Lit.int .u64 n).wf = true) :
    ∃ xs : List Nat, xs.length = len ∧ Rd w (some a) xs := by
  have hb : ∀ n ∈ zs, 0 ≤ n ∧ n < 18446744073709551616 := by
    intro n hn
    have := hw n hn
    simp [Lit.wf, IntKind.min, IntKind.max, IntKind.bits, IntKind.signed] at this
    omega
  refine ⟨(zs.take len).map Int.toNat, by simp; omega, ⟨?_, ?_⟩⟩
  · intro z hz
    rw [List.mem_map] at hz
    obtain ⟨n, hn, rfl⟩ := hz
    have := hb n (List.mem_of_mem_take hn)
    omega
  · intro hne
    have hp : 0 < len := by
      rcases Nat.eq_zero_or_pos len with h | h
      · subst h; simp at hne
      · exact h
    obtain ⟨b, off, spot⟩ := a
    have h0 := hc 0 (by omega)
    have hspot : spot = none := by simpa [Addr.add] using World.cell?_spot h0
    subst hspot
    refine ⟨b, off, rfl, fun t ht => ?_⟩
    have htl : t < len := by simpa using Nat.lt_of_lt_of_le ht (by simp; omega)
    have h1 := hc t (by omega)
    have e : (⟨b, off, none⟩ : Addr).add t = ⟨b, off + t, none⟩ := by
      unfold Addr.add
      split
      · rename_i h; subst h; rfl
      · rfl
    rw [e] at h1
    rw [h1]
    have hz : zs.getD t 0 ∈ zs := by
      rw [List.getD_eq_getElem?_getD, List.getElem?_eq_getElem (by omega)]
      exact List.getElem_mem _
    have h2 := hb _ hz
    have h3 : ((zs.take len).map Int.toNat).getD t 0 = (zs.getD t 0).toNat := by
      have ht2 : t < zs.length := by omega
      simp [List.getD_eq_getElem?_getD, htl, ht2]
    rw [h3, Int.toNat_of_nonneg h2.1]

theorem open_row {H : Type} {enc : TypeId × Value → H} {w : World} {r : Reach} {b0 : Nat} {v : Value} {d : DataW H} {p : List MemPlace}
    (hv : Value.okWide Try.prog w r b0 24 v) (h : DataW.Trod enc Try.prog w 0 (fun _ => true) true 24 v d p) (hz : (d.weights Try.prog 24).all (· ≤ reachBytes) = true) :
    ∃ (n : Int) (ao : Option Addr) (cap : Nat) (xs : List Nat), v = .agg #[.int .i64 n, .slice ao xs.length cap] ∧ Rd w ao xs ∧ xs.length ≤ 17592186043904 ∧ (Lit.int .i64 n).wf = true ∧ (ao = none → cap = 0) := by
  obtain ⟨v0, v1, y0, y1, n, rfl, rfl, rfl, h0, h1⟩ := open_agg2 Try.underlying24 (by kernel_rfl) cellsRow hv h
  obtain ⟨x, e0, rfl, wx⟩ := DataW.trod_int Try.underlying3 h0
  simp at e0
  subst e0
  rcases open_ints Try.underlying22 Try.underlying55 cellsWord h1 with ⟨hcs, hx⟩ | ⟨a, len, cap, zs, hcs, _, hl, hm, hzs, hx, hcell, hwz⟩
  · simp at hcs
    subst hcs
    exact ⟨x, none, 0, [], rfl, Rd.nil _ _, by simp, wx, fun _ => rfl⟩
  · simp at hcs
    subst hcs
    subst hx
    simp only [if_true] at hzs
    obtain ⟨xs, hxl, hr⟩ := rd_of_ints (w := w) (a := a) (len := len) (by omega) hcell hwz
    subst hxl
    refine ⟨x, some a, cap, xs, rfl, hr, ?_, wx, fun h => (by cases h)⟩
    simp only [DataW.weights, Try.underlying24, Try.underlying22, List.map_cons, List.map_nil, DataW.weightsEach, bytesWord, lits, List.length_map, List.length_take, List.length_drop, List.nil_append, List.append_nil] at hz
    simp only [List.all_cons, Bool.and_eq_true, reachBytes] at hz
    have hz1 := of_decide_eq_true hz.1
    omega
end Go.Proofs.Ytmckdefemdcknaa
