/-
  Lists of types, lists of points and tables that came in, opened; none takes more than the form's reach.
-/
import Derived.Test.YtiikkbofcccjfaaT11
import Derived.ProofKit
import Derived.OpenShut
import Derived.Lib.SmallJoins
import Derived.SizedLaws
import Derived.Carry
import Derived.Deep.Strs
namespace Go.Proofs.Ytiikkbofcccjfaa
open Go.ChangeShapes Go.WideShapes Go.ChangeAt Go.RowKit Go.Joins Go.Deep
set_option maxRecDepth 100000

theorem own : ownKnob Try.prog.godebug = none := by kernel_rfl
theorem laidOut : laidOutB Try.prog = true := by kernel_rfl
theorem cellsRow : Try.prog.cellsOf 41 = 2 := by kernel_rfl
theorem cellsTab : Try.prog.cellsOf 43 = 4 := by kernel_rfl
theorem cellsWord : Try.prog.cellsOf 68 = 1 := by kernel_rfl
theorem bytesWord : Try.prog.bytesOf 68 = 8 := by kernel_rfl
theorem cellsType : Try.prog.cellsOf 38 = 1 := by kernel_rfl
theorem bytesType : Try.prog.bytesOf 38 = 8 := by kernel_rfl
theorem cellsPoint : Try.prog.cellsOf 54 = 1 := by kernel_rfl
theorem bytesPoint : Try.prog.bytesOf 54 = 8 := by kernel_rfl
theorem cellsTypes : Try.prog.cellsOf 22 = 1 := by kernel_rfl
theorem cellsWords : Try.prog.cellsOf 39 = 1 := by kernel_rfl
theorem cellsInt : Try.prog.cellsOf 3 = 1 := by kernel_rfl

theorem add_off {b off t : Nat} : (⟨b, off, none⟩ : Addr).add t = ⟨b, off + t, none⟩ := by
  unfold Addr.add
  split
  · rename_i h; subst h; rfl
  · rfl
theorem iz_of_ints {w : World} {a : Addr} {len : Nat} {zs : List Int} (hl : len ≤ zs.length) (hc : ∀ i, i < zs.length → w.cell? (a.add i) = some (.int .i64 (zs.getD i 0))) : ∃ xs : List Int, xs.length = len ∧ Iz w (some a) xs := by
  refine ⟨zs.take len, by simp; omega, fun hne => ?_⟩
  have hp : 0 < len := by
    rcases Nat.eq_zero_or_pos len with h | h
    · subst h; simp at hne
    · exact h
  obtain ⟨b, off, spot⟩ := a
  have h0 := hc 0 (by omega)
  have hspot : spot = none := by simpa [Addr.add] using World.cell?_spot h0
  subst hspot
  refine ⟨b, off, rfl, fun t ht => ?_⟩
  have htl : t < len := by simpa using Nat.lt_of_lt_of_le ht (by simp; omega)
  have h1 := hc t (by omega)
  rw [add_off] at h1
  rw [h1]
  simp [List.getD_eq_getElem?_getD, htl]
theorem rd_of_ints {w : World} {a : Addr} {len : Nat} {zs : List Int} (hl : len ≤ zs.length) (hc : ∀ i, i < zs.length → w.cell? (a.add i) = some (.int .u64 (zs.getD i 0))) (hw : ∀ n ∈ zs, (Lit.int .u64 n).wf = true) :
    ∃ xs : List Nat, xs.length = len ∧ Rd w (some a) xs := by
  have hb : ∀ n ∈ zs, 0 ≤ n ∧ n < 18446744073709551616 := by
    intro n hn
    have := hw n hn
    simp [Lit.wf, IntKind.min, IntKind.max, IntKind.bits, IntKind.signed] at this
    omega
  refine ⟨(zs.take len).map Int.toNat, by simp; omega, ⟨?_, ?_⟩⟩
  · intro z hz
    rw [List.mem_map] at hz
    obtain ⟨n, hn, rfl⟩ := hz
    have := hb n (List.mem_of_mem_take hn)
    omega
  · intro hne
    have hp : 0 < len := by
      rcases Nat.eq_zero_or_pos len with h | h
      · subst h; simp at hne
      · exact h
    obtain ⟨b, off, spot⟩ := a
    have h0 := hc 0 (by omega)
    have hspot : spot = none := by simpa [Addr.add] using World.cell?_spot h0
    subst hspot
    refine ⟨b, off, rfl, fun t ht => ?_⟩
    have htl : t < len := by simpa using Nat.lt_of_lt_of_le ht (by simp; omega)
    have h1 := hc t (by omega)
    rw [add_off] at h1
    rw [h1]
    have hz : zs.getD t 0 ∈ zs := by
      rw [List.getD_eq_getElem?_getD, List.getElem?_eq_getElem (by omega)]
      exact List.getElem_mem _
    have h2 := hb _ hz
    have h3 : ((zs.take len).map Int.toNat).getD t 0 = (zs.getD t 0).toNat := by
      have ht2 : t < zs.length := by omega
      simp [List.getD_eq_getElem?_getD, htl, ht2]
    rw [h3, Int.toNat_of_nonneg h2.1]

theorem types_at {H : Type} {enc : TypeId × Value → H} {w : World} {m : Nat} {c : Value} {y : DataW H × List MemPlace} (h : DataW.trod enc Try.prog w 0 (fun _ => true) true m 22 [c] = some y) (hz : (y.1.weights Try.prog 22).all (· ≤ reachBytes) = true) :
    ∃ (ao : Option Addr) (cap : Nat) (ks : List Int), c = .slice ao ks.length cap ∧ Iz w ao ks ∧ ks.length ≤ 17592186043904 ∧ (ao = none → cap = 0) := by
  rcases open_ints Try.underlying22 Try.underlying38 cellsType h with ⟨hcs, hx⟩ | ⟨a, len, cap, zs, hcs, _, hl, _, hzs, hx, hcell, _⟩
  · simp at hcs
    subst hcs
    exact ⟨none, 0, [], rfl, Iz.nil _ _, by simp, fun _ => rfl⟩
  · simp at hcs
    subst hcs
    subst hx
    simp only [if_true] at hzs
    obtain ⟨xs, hxl, hr⟩ := iz_of_ints (w := w) (a := a) (len := len) (by omega) hcell
    subst hxl
    refine ⟨some a, cap, xs, rfl, hr, ?_, fun h => (by cases h)⟩
    simp only [DataW.weights, Try.underlying22, bytesType, lits, List.length_map, List.length_take, List.length_drop] at hz
    simp only [List.all_cons, Bool.and_eq_true, reachBytes] at hz
    have hz1 := of_decide_eq_true hz.1
    omega
theorem open_types {H : Type} {enc : TypeId × Value → H} {w : World} {r : Reach} {b0 : Nat} {v : Value} {d : DataW H} {p : List MemPlace}
    (hv : Value.okWide Try.prog w r b0 22 v) (h : DataW.Trod enc Try.prog w 0 (fun _ => true) true 22 v d p) (hz : (d.weights Try.prog 22).all (· ≤ reachBytes) = true) :
    ∃ (ao : Option Addr) (cap : Nat) (ks : List Int), v = .slice ao ks.length cap ∧ Iz w ao ks ∧ ks.length ≤ 17592186043904 ∧ (ao = none → cap = 0) := by
  obtain ⟨a0, n0, c0, rfl⟩ := okWide_slice Try.underlying22 hv
  obtain ⟨fuel, hm⟩ := h
  exact types_at hm hz

theorem pts_at {H : Type} {enc : TypeId × Value → H} {w : World} {m : Nat} {c : Value} {y : DataW H × List MemPlace} (h : DataW.trod enc Try.prog w 0 (fun _ => true) true m 23 [c] = some y) (hz : (y.1.weights Try.prog 23).all (· ≤ reachBytes) = true) :
    ∃ (ao : Option Addr) (cap : Nat) (ks : List Int), c = .slice ao ks.length cap ∧ Iz w ao ks ∧ ks.length ≤ 17592186043904 ∧ (ao = none → cap = 0) := by
  rcases open_ints Try.underlying23 Try.underlying54 cellsPoint h with ⟨hcs, hx⟩ | ⟨a, len, cap, zs, hcs, _, hl, _, hzs, hx, hcell, _⟩
  · simp at hcs
    subst hcs
    exact ⟨none, 0, [], rfl, Iz.nil _ _, by simp, fun _ => rfl⟩
  · simp at hcs
    subst hcs
    subst hx
    simp only [if_true] at hzs
    obtain ⟨xs, hxl, hr⟩ := iz_of_ints (w := w) (a := a) (len := len) (by omega) hcell
    subst hxl
    refine ⟨some a, cap, xs, rfl, hr, ?_, fun h => (by cases h)⟩
    simp only [DataW.weights, Try.underlying23, bytesPoint, lits, List.length_map, List.length_take, List.length_drop] at hz
    simp only [List.all_cons, Bool.and_eq_true, reachBytes] at hz
    have hz1 := of_decide_eq_true hz.1
    omega
theorem open_pts {H : Type} {enc : TypeId × Value → H} {w : World} {r : Reach} {b0 : Nat} {v : Value} {d : DataW H} {p : List MemPlace}
    (hv : Value.okWide Try.prog w r b0 23 v) (h : DataW.Trod enc Try.prog w 0 (fun _ => true) true 23 v d p) (hz : (d.weights Try.prog 23).all (· ≤ reachBytes) = true) :
    ∃ (ao : Option Addr) (cap : Nat) (ks : List Int), v = .slice ao ks.length cap ∧ Iz w ao ks ∧ ks.length ≤ 17592186043904 ∧ (ao = none → cap = 0) := by
  obtain ⟨a0, n0, c0, rfl⟩ := okWide_slice Try.underlying23 hv
  obtain ⟨fuel, hm⟩ := h
  exact pts_at hm hz

theorem words_at {H : Type} {enc : TypeId × Value → H} {w : World} {m : Nat} {c : Value} {y : DataW H × List MemPlace} (h : DataW.trod enc Try.prog w 0 (fun _ => true) true m 39 [c] = some y) (hz : (y.1.weights Try.prog 39).all (· ≤ reachBytes) = true) :
    ∃ (ao : Option Addr) (cap : Nat) (xs : List Nat), c = .slice ao xs.length cap ∧ Rd w ao xs ∧ xs.length ≤ 17592186043904 ∧ (ao = none → cap = 0) := by
  rcases open_ints Try.underlying39 Try.underlying68 cellsWord h with ⟨hcs, hx⟩ | ⟨a, len, cap, zs, hcs, _, hl, _, hzs, hx, hcell, hwz⟩
  · simp at hcs
    subst hcs
    exact ⟨none, 0, [], rfl, Rd.nil _ _, by simp, fun _ => rfl⟩
  · simp at hcs
    subst hcs
    subst hx
    simp only [if_true] at hzs
    obtain ⟨xs, hxl, hr⟩ := rd_of_ints (w := w) (a := a) (len := len) (by omega) hcell hwz
    subst hxl
    refine ⟨some a, cap, xs, rfl, hr, ?_, fun h => (by cases h)⟩
    simp only [DataW.weights, Try.underlying39, bytesWord, lits, List.length_map, List.length_take, List.length_drop] at hz
    simp only [List.all_cons, Bool.and_eq_true, reachBytes] at hz
    have hz1 := of_decide_eq_true hz.1
    omega

theorem open_tab {H : Type} {enc : TypeId × Value → H} {w : World} {r : Reach} {b0 : Nat} {v : Value} {d : DataW H} {p : List MemPlace}
    (hv : Value.okWide Try.prog w r b0 43 v) (h : DataW.Trod enc Try.prog w 0 (fun _ => true) true 43 v d p) (hz : (d.weights Try.prog 43).all (· ≤ reachBytes) = true) :
    ∃ (ks : List Int) (t n : Int) (xs : List Nat) (ao bo : Option Addr) (ca cb : Nat), v = .agg #[.slice ao ks.length ca, .int .i64 t, .int .i64 n, .slice bo xs.length cb] ∧ TbW w ks xs ao bo ca cb := by
  obtain ⟨cs, rfl, hsz⟩ := okWide_struct Try.underlying43 hv
  obtain ⟨c0, c1, c2, c3, rfl⟩ := array4 (hsz.trans cellsTab)
  obtain ⟨fuel, hf⟩ := h
  obtain ⟨y0, y1, y2, m, hx, _, h0, h1, h2⟩ := trod_struct3 Try.underlying43 hf
  simp only [Prod.mk.injEq] at hx
  obtain ⟨rfl, rfl⟩ := hx
  simp [Value.cells, cellsTypes, cellsType, cellsRow] at h0 h1 h2
  obtain ⟨z0, z1, m2, rfl, _, g0, g1⟩ := trod_struct2 Try.underlying41 h2
  simp [cellsInt, cellsWords] at g0 g1
  obtain ⟨t, e1, rfl, w1⟩ := DataW.trod_int Try.underlying38 h1
  obtain ⟨n, e2, rfl, w2⟩ := DataW.trod_int Try.underlying3 g0
  simp at e1 e2
  subst e1 e2
  simp only [DataW.weights, Try.underlying43, Try.underlying41, List.map_cons, List.map_nil, DataW.weightsEach] at hz
  simp only [List.nil_append, List.append_nil, List.all_append, Bool.and_eq_true] at hz
  obtain ⟨ao, ca, ks, rfl, hi, l1, c1⟩ := types_at h0 hz.1
  obtain ⟨bo, cb, xs, rfl, hr, l2, c2⟩ := words_at g1 hz.2
  exact ⟨ks, t, n, xs, ao, bo, ca, cb, rfl, hi, hr, l1, l2, c1, c2⟩
end Go.Proofs.Ytiikkbofcccjfaa
