/-
  A law's texts and parameters that came in, opened.
-/
import Derived.Test.YtnpigleolifcaaaSc
import Derived.Test.YtnpigleolifcaaaRows
import Derived.Test.YtnpigleolifcaaaChecked
import Derived.ProofKit
import Derived.OpenShut
import Derived.Lib.SmallJoins
import Derived.SizedLaws
import Derived.Carry
import Derived.SliceStrings
import Derived.Deep.Strs
import Derived.Deep.DeepHandedRow
namespace Go.Proofs.Ytnpigleolifcaaa
open Go.ChangeShapes Go.WideShapes Go.ChangeAt Go.RowKit Go.Joins
open Go.Lib
set_option maxRecDepth 100000

theorem own : ownKnob Try.prog.godebug = none := by kernel_rfl
theorem laidOut : laidOutB Try.prog = true := by kernel_rfl

theorem one_le {H : Type} (d : DataW H) : 1 ≤ Rows.uptoBulk d := by
  cases d with
  | lit l => cases l <;> simp [Rows.uptoBulk]
  | nil => simp [Rows.uptoBulk]
  | ptr d => simp [Rows.uptoBulk]
  | slice elems spare => simp [Rows.uptoBulk]
  | agg parts => simp [Rows.uptoBulk]
  | iface t d => simp [Rows.uptoBulk]
  | map entries => simp [Rows.uptoBulk]
  | held h => simp [Rows.uptoBulk]

theorem length_le {H : Type} (l : List (DataW H)) : l.length ≤ Rows.uptoBulkAll l := by
  induction l with
  | nil => simp [Rows.uptoBulkAll]
  | cons x r ih => have := one_le x; simp only [Rows.uptoBulkAll, List.length_cons]; omega

theorem exists_list {α : Type} (d : α) {n : Nat} {P : Nat → α → Prop} (h : ∀ i, i < n → ∃ q, P i q) : ∃ qs : List α, qs.length = n ∧ ∀ i, i < n → P i (qs.getD i d) := by
  induction n with
  | zero => exact ⟨[], rfl, fun i hi => absurd hi (Nat.not_lt_zero _)⟩
  | succ n ih =>
    obtain ⟨qs, hl, hq⟩ := ih (fun i hi => h i (by omega))
    obtain ⟨q, hqn⟩ := h n (by omega)
    refine ⟨qs ++ [q], by simp [hl], fun i hi => ?_⟩
    by_cases hin : i < n
    · have := hq i hin
      rw [List.getD_eq_getElem?_getD] at this ⊢
      rw [List.getElem?_append_left (by omega)]
      exact this
    · have : i = n := by omega
      subst this
      rw [List.getD_eq_getElem?_getD, List.getElem?_append_right (by omega), hl]
      simpa using hqn

theorem cellsByte : Try.prog.cellsOf 5 = 1 := by kernel_rfl
theorem bd_of_ints {w : World} {a : Addr} {len : Nat} {zs : List Int} (hl : len ≤ zs.length) (hc : ∀ i, i < zs.length → w.cell? (a.add i) = some (.int .u8 (zs.getD i 0))) (hw : ∀ n ∈ zs, (Lit.int .u8 n).wf = true) :
    ∃ xs : List UInt8, xs.length = len ∧ Bd w (some a) xs := by
  have hb : ∀ n ∈ zs, 0 ≤ n ∧ n < 256 := by
    intro n hn
    have := hw n hn
    simp [Lit.wf, IntKind.min, IntKind.max, IntKind.bits, IntKind.signed] at this
    omega
  refine ⟨(zs.take len).map fun z => UInt8.ofNat z.toNat, by simp; omega, ⟨fun hne => ?_⟩⟩
  have hp : 0 < len := by
    rcases Nat.eq_zero_or_pos len with h | h
    · subst h; simp at hne
    · exact h
  obtain ⟨b, off, spot⟩ := a
  have h0 := hc 0 (by omega)
  have hspot : spot = none := by simpa [Addr.add] using World.cell?_spot h0
  subst hspot
  refine ⟨b, off, rfl, fun t ht => ?_⟩
  have htl : t < len := by simpa using Nat.lt_of_lt_of_le ht (by simp; omega)
  have h1 := hc t (by omega)
  rw [Addr.add_mid] at h1
  rw [h1]
  have hz : zs.getD t 0 ∈ zs := by
    rw [List.getD_eq_getElem?_getD, List.getElem?_eq_getElem (by omega)]
    exact List.getElem_mem _
  have h2 := hb _ hz
  have h3 : ((zs.take len).map fun z => UInt8.ofNat z.toNat).getD t 0 = UInt8.ofNat (zs.getD t 0).toNat := by
    have ht2 : t < zs.length := by omega
    simp [List.getD_eq_getElem?_getD, htl, ht2]
  rw [h3]
  generalize zs.getD t 0 = z at *
  have h4 : (UInt8.ofNat z.toNat).toNat = z.toNat := by simp; omega
  rw [h4, Int.toNat_of_nonneg h2.1]

theorem slice_le {H : Type} (elems spare : List (DataW H)) : elems.length + spare.length + 1 ≤ Rows.uptoBulk (.slice elems spare) := by
  have h1 := length_le elems
  have h2 := length_le spare
  simp only [Rows.uptoBulk]
  omega

/-- A slice of bytes, opened: its bytes, where they lie, and that its bulk counts them. -/
theorem open_bytes {H : Type} {enc : TypeId × Value → H} {w : World} {r : Reach} {b0 : Nat} {v : Value} {d : DataW H} {p : List MemPlace}
    (hv : Value.okWide Try.prog w r b0 22 v) (h : DataW.Trod enc Try.prog w 0 (fun _ => true) true 22 v d p) :
    ∃ (ao : Option Addr) (cap : Nat) (xs : List UInt8), v = .slice ao xs.length cap ∧ Bd w ao xs ∧ xs.length ≤ cap ∧ (ao = none → cap = 0) ∧ xs.length + 1 ≤ Rows.uptoBulk d := by
  obtain ⟨a0, n0, c0, rfl⟩ := okWide_slice Try.underlying22 hv
  obtain ⟨m, hm⟩ := h
  rcases open_ints Try.underlying22 Try.underlying5 cellsByte hm with ⟨hcs, hx⟩ | ⟨a, len, cap, zs, hcs, _, hl, hmx, hzs, hx, hcell, hwz⟩
  · simp [Value.cells] at hcs
    obtain ⟨rfl, rfl, rfl⟩ := hcs
    exact ⟨none, 0, [], rfl, Bd.nil _ _, by simp, fun _ => rfl, one_le _⟩
  · simp [Value.cells] at hcs
    obtain ⟨rfl, rfl, rfl⟩ := hcs
    simp only [if_true] at hzs
    obtain ⟨xs, hxl, hr⟩ := bd_of_ints (w := w) (a := a) (len := n0) (by omega) hcell hwz
    subst hxl
    refine ⟨some a, c0, xs, rfl, hr, hl, fun e => (by cases e), ?_⟩
    have hd : d = .slice (lits .u8 (zs.take xs.length)) (lits .u8 (zs.drop xs.length)) := congrArg Prod.fst hx
    rw [hd]
    have := slice_le (H := H) (lits .u8 (zs.take xs.length)) (lits .u8 (zs.drop xs.length))
    have e1 : (lits (H := H) .u8 (zs.take xs.length)).length = xs.length := by simp [lits]; omega
    omega
theorem weights_each {H : Type} {P : Program} {t : TypeId} {p : Nat → Bool} : ∀ {l : List (DataW H)}, (DataW.weightsAll P t l).all p = true → ∀ d ∈ l, (d.weights P t).all p = true := by
  intro l
  induction l with
  | nil => intro _ d hd; simp at hd
  | cons x r ih =>
    intro h d hd
    simp only [DataW.weightsAll, List.all_append, Bool.and_eq_true] at h
    rcases List.mem_cons.1 hd with e | e
    · rw [e]; exact h.1
    · exact ih h.2 d e

/-- A parameter that came in. -/
structure Pa where
  name : List UInt8
  ty : Int
  at_ : Int
def pa0 : Pa := ⟨[], 0, 0⟩
def paC (q : Pa) : List Value := [.string (bs q.name), .int .i64 q.ty, .int .i64 q.at_]
/-- Parameters as they came in. -/
def PaW (w : World) (ao : Option Addr) (qs : List Pa) : Prop := qs ≠ [] → ∃ b off, ao = some ⟨b, off, none⟩ ∧ ∀ i, i < qs.length → w.rangeAt b (off + i * 3) (paC (qs.getD i pa0))
theorem cellsPa : Try.prog.cellsOf 47 = 3 := by kernel_rfl
theorem bytesPa : Try.prog.bytesOf 47 = 32 := by kernel_rfl
theorem open_pa {H : Type} {enc : TypeId × Value → H} {w : World} {base : Nat} {sp : Nat → Bool} {held : Bool} {fuel : Nat} {cs : List Value} {x : DataW H × List MemPlace}
    (h : DataW.trod enc Try.prog w base sp held fuel 47 cs = some x) : ∃ q : Pa, cs = paC q ∧ ((x.1.weights Try.prog 47).all (· ≤ reachBytes) = true → q.name.length ≤ reachBytes) := by
  obtain ⟨y0, y1, y2, n, rfl, hl, h0, h1, h2⟩ := Go.Deep.trod_struct3 Try.underlying47 h
  rw [cellsPa] at hl
  match cs, hl with
  | [c0, c1, c2], _ =>
    simp only [show Try.prog.cellsOf 9 = 1 by kernel_rfl, show Try.prog.cellsOf 3 = 1 by kernel_rfl, show Try.prog.cellsOf 35 = 1 by kernel_rfl, List.drop_zero, List.drop_succ_cons, List.take_succ_cons, List.take_zero] at h0 h1 h2
    obtain ⟨s, e0, hy0, hs⟩ := DataW.trod_string Try.underlying9 h0
    obtain ⟨a, e1, _, _⟩ := DataW.trod_int Try.underlying35 h1
    obtain ⟨b, e2, _, _⟩ := DataW.trod_int Try.underlying3 h2
    simp at e0 e1 e2
    subst hy0
    refine ⟨⟨s.data.toList, a, b⟩, ?_, fun hz => ?_⟩
    · unfold paC
      rw [e0, e1, e2]
      congr 2
    · simp only [DataW.weights, Try.underlying47, List.map_cons, List.map_nil, DataW.weightsEach, List.all_append, List.all_cons, Bool.and_eq_true] at hz
      exact of_decide_eq_true hz.1.1
theorem open_params {H : Type} {enc : TypeId × Value → H} {w : World} {r : Reach} {b0 : Nat} {v : Value} {d : DataW H} {p : List MemPlace}
    (hv : Value.okWide Try.prog w r b0 34 v) (h : DataW.Trod enc Try.prog w 0 (fun _ => true) true 34 v d p) (hz : (d.weights Try.prog 34).all (· ≤ reachBytes) = true) :
    ∃ (ao : Option Addr) (cap : Nat) (qs : List Pa), v = .slice ao qs.length cap ∧ PaW w ao qs ∧ (ao = none → cap = 0) ∧ (ao = none → qs = []) ∧ qs.length * 32 ≤ reachBytes ∧ ∀ q ∈ qs, q.name.length ≤ reachBytes := by
  obtain ⟨a0, n0, c0, rfl⟩ := okWide_slice Try.underlying34 hv
  obtain ⟨fuel, hm⟩ := h
  rcases DataW.trod_slice Try.underlying34 hm with ⟨hcs, hx⟩ | ⟨a, len, cap, elems, rest, n, _, hcs, hx, _, hlc, _, hel, hat, _⟩
  · simp [Value.cells] at hcs
    obtain ⟨rfl, rfl, rfl⟩ := hcs
    exact ⟨none, 0, [], rfl, fun h => absurd rfl h, fun _ => rfl, fun _ => rfl, by simp, fun i hi => by simp at hi⟩
  · simp [Value.cells] at hcs
    obtain ⟨rfl, rfl, rfl⟩ := hcs
    obtain ⟨b, off, spot⟩ := a
    rw [cellsPa] at hat
    have hd : d = .slice (elems.map (·.1)) (rest.map (·.1)) := congrArg Prod.fst hx
    rw [hd] at hz
    simp only [DataW.weights, Try.underlying34, List.all_cons, Bool.and_eq_true, List.all_append, bytesPa, List.length_map] at hz
    have hz1 := of_decide_eq_true hz.1
    have hz2 := weights_each hz.2.1
    have pre : ∀ i, i < n0 → ∃ q : Pa, (∀ j c, (paC q)[j]? = some c → w.cell? (((⟨b, off, spot⟩ : Addr).add (i * 3)).add j) = some c) ∧ q.name.length ≤ reachBytes := by
      intro i hi
      have h1 := hat i hi
      have hlt : i < elems.length := by omega
      rw [List.getElem?_eq_getElem hlt] at h1
      obtain ⟨cs, hc, ht⟩ := Option.bind_eq_some_iff.1 h1
      obtain ⟨q, rfl, hw⟩ := open_pa ht
      obtain ⟨_, _, hcell⟩ := World.cells?_some hc
      refine ⟨q, fun j c hj => ?_, hw (hz2 _ (List.mem_map.2 ⟨_, List.getElem_mem hlt, rfl⟩))⟩
      have hj6 : j < 3 := by
        have := (List.getElem?_eq_some_iff.1 hj).1
        simpa [paC] using this
      rw [hcell j hj6]
      exact hj
    have one : ∀ i, i < n0 → ∃ q : Pa, spot = none ∧ w.rangeAt b (off + i * 3) (paC q) ∧ q.name.length ≤ reachBytes := by
      intro i hi
      obtain ⟨q0, c0, _⟩ := pre 0 (by omega)
      have hspot : spot = none := by simpa [Addr.add] using World.cell?_spot (c0 0 _ rfl)
      subst hspot
      obtain ⟨q, hc, hr⟩ := pre i hi
      refine ⟨q, rfl, fun j c hj => ?_, hr⟩
      have := hc j c hj
      simp only [Addr.add_mid] at this
      exact this
    obtain ⟨qs, hql, hq⟩ := exists_list pa0 one
    subst hql
    refine ⟨some ⟨b, off, spot⟩, c0, qs, rfl, fun hne => ?_, (fun e => by cases e), (fun e => by cases e), ?_, fun i hi => ?_⟩
    · have hp : 0 < qs.length := List.length_pos_iff.2 hne
      obtain ⟨rfl, _⟩ := hq 0 hp
      exact ⟨b, off, rfl, fun t ht => (hq t ht).2.1⟩
    · have : elems.length = qs.length := hel
      omega
    · obtain ⟨t, ht, e⟩ := List.mem_iff_getElem.1 hi
      have := (hq t ht).2.2
      rw [List.getD_eq_getElem?_getD, List.getElem?_eq_getElem ht] at this
      rw [← e]
      exact this
end Go.Proofs.Ytnpigleolifcaaa
