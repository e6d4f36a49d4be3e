/-
  Slices of bytes and of a law's values that came in, opened.
-/
import Derived.Test.YtbgggbkmnfppoaaGreatDoorVv
import Derived.Test.YtbgggbkmnfppoaaGreatDoorZa
namespace Go.Proofs.YtbgggbkmnfppoaaGreatDoor
open Go.ChangeShapes Go.WideShapes Go.ChangeAt Go.RowKit Go.Joins
open Go.Lib
set_option maxRecDepth 100000

theorem cellsByte : Tryz.prog.cellsOf 5 = 1 := by kernel_rfl
theorem Bd.nil (w : World) (ao : Option Addr) : Bd w ao [] := ⟨fun h => absurd rfl h⟩
theorem bd_of_ints {w : World} {a : Addr} {len : Nat} {zs : List Int} (hl : len ≤ zs.length) (hc : ∀ i, i < zs.length → w.cell? (a.add i) = some (.int .u8 (zs.getD i 0))) (hw : ∀ n ∈ zs, (Lit.int .u8 n).wf = true) :
    ∃ xs : List UInt8, xs.length = len ∧ Bd w (some a) xs := by
  have hb : ∀ n ∈ zs, 0 ≤ n ∧ n < 256 := by
    intro n hn
    have := hw n hn
    simp [Lit.wf, IntKind.min, IntKind.max, IntKind.bits, IntKind.signed] at this
    omega
  refine ⟨(zs.take len).map fun z => UInt8.ofNat z.toNat, by simp; omega, ⟨fun hne => ?_⟩⟩
  have hp : 0 < len := by
    rcases Nat.eq_zero_or_pos len with h | h
    · subst h; simp at hne
    · exact h
  obtain ⟨b, off, spot⟩ := a
  have h0 := hc 0 (by omega)
  have hspot : spot = none := by simpa [Addr.add] using World.cell?_spot h0
  subst hspot
  refine ⟨b, off, rfl, fun t ht => ?_⟩
  have htl : t < len := by simpa using Nat.lt_of_lt_of_le ht (by simp; omega)
  have h1 := hc t (by omega)
  rw [Addr.add_mid] at h1
  rw [h1]
  have hz : zs.getD t 0 ∈ zs := by
    rw [List.getD_eq_getElem?_getD, List.getElem?_eq_getElem (by omega)]
    exact List.getElem_mem _
  have h2 := hb _ hz
  have h3 : ((zs.take len).map fun z => UInt8.ofNat z.toNat).getD t 0 = UInt8.ofNat (zs.getD t 0).toNat := by
    have ht2 : t < zs.length := by omega
    simp [List.getD_eq_getElem?_getD, htl, ht2]
  rw [h3]
  generalize zs.getD t 0 = z at *
  have h4 : (UInt8.ofNat z.toNat).toNat = z.toNat := by simp; omega
  rw [h4, Int.toNat_of_nonneg h2.1]

theorem slice_le {H : Type} (elems spare : List (DataW H)) : elems.length + spare.length + 1 ≤ Rows.uptoBulk (.slice elems spare) := by
  have h1 := length_le elems
  have h2 := length_le spare
  simp only [Rows.uptoBulk]
  omega

/-- A slice of bytes, opened: its bytes, where they lie, and that its bulk counts them. -/
theorem open_bytes {H : Type} {enc : TypeId × Value → H} {w : World} {r : Reach} {b0 : Nat} {v : Value} {d : DataW H} {p : List MemPlace}
    (hv : Value.okWide Tryz.prog w r b0 55 v) (h : DataW.Trod enc Tryz.prog w 0 (fun _ => true) true 55 v d p) :
    ∃ (ao : Option Addr) (cap : Nat) (xs : List UInt8), v = .slice ao xs.length cap ∧ Bd w ao xs ∧ xs.length ≤ cap ∧ (ao = none → cap = 0) ∧ xs.length + 1 ≤ Rows.uptoBulk d := by
  obtain ⟨a0, n0, c0, rfl⟩ := okWide_slice Tryz.underlying55 hv
  obtain ⟨m, hm⟩ := h
  rcases open_ints Tryz.underlying55 Tryz.underlying5 cellsByte hm with ⟨hcs, hx⟩ | ⟨a, len, cap, zs, hcs, _, hl, hmx, hzs, hx, hcell, hwz⟩
  · simp [Value.cells] at hcs
    obtain ⟨rfl, rfl, rfl⟩ := hcs
    exact ⟨none, 0, [], rfl, Bd.nil _ _, by simp, fun _ => rfl, one_le _⟩
  · simp [Value.cells] at hcs
    obtain ⟨rfl, rfl, rfl⟩ := hcs
    simp only [if_true] at hzs
    obtain ⟨xs, hxl, hr⟩ := bd_of_ints (w := w) (a := a) (len := n0) (by omega) hcell hwz
    subst hxl
    refine ⟨some a, c0, xs, rfl, hr, hl, fun e => (by cases e), ?_⟩
    have hd : d = .slice (lits .u8 (zs.take xs.length)) (lits .u8 (zs.drop xs.length)) := congrArg Prod.fst hx
    rw [hd]
    have := slice_le (H := H) (lits .u8 (zs.take xs.length)) (lits .u8 (zs.drop xs.length))
    have e1 : (lits (H := H) .u8 (zs.take xs.length)).length = xs.length := by simp [lits]; omega
    omega

theorem sum_le {H : Type} : ∀ (qs : List Qi) (es : List (DataW H)), qs.length = es.length → (∀ (i : Nat) (q : Qi) (e : DataW H), qs[i]? = some q → es[i]? = some e → q.2.2.l.length + 1 ≤ 2 * Rows.uptoBulk e) → sumQ qs ≤ 2 * Rows.uptoBulkAll es := by
  intro qs
  induction qs with
  | nil => intro es _ _; simp [sumQ]
  | cons q r ih =>
    intro es hl h
    cases es with
    | nil => simp at hl
    | cons e t =>
      have h0 := h 0 q e rfl rfl
      have h1 := ih t (by simpa using hl) (fun i x y hx hy => h (i + 1) x y (by simpa using hx) (by simpa using hy))
      unfold sumQ at h1 ⊢
      simp only [List.map_cons, List.sum_cons, Rows.uptoBulkAll]
      omega

/-- A slice of a law's values, opened. -/
theorem open_vals {H : Type} {enc : TypeId × Value → H} {w : World} {r : Reach} {b0 : Nat} {v : Value} {d : DataW H} {p : List MemPlace}
    (hv : Value.okWide Tryz.prog w r b0 54 v) (h : DataW.Trod enc Tryz.prog w 0 (fun _ => true) true 54 v d p) :
    ∃ (ao : Option Addr) (cap : Nat) (qs : List Qi), v = .slice ao qs.length cap ∧ Qs w ao qs ∧ sumQ qs ≤ 2 * Rows.uptoBulk d := by
  obtain ⟨a0, n0, c0, rfl⟩ := okWide_slice Tryz.underlying54 hv
  obtain ⟨fuel, hm⟩ := h
  rcases DataW.trod_slice Tryz.underlying54 hm with ⟨hcs, hx⟩ | ⟨a, len, cap, elems, rest, n, _, hcs, hx, _, hlc, _, hel, hat, _⟩
  · simp [Value.cells] at hcs
    obtain ⟨rfl, rfl, rfl⟩ := hcs
    exact ⟨none, 0, [], rfl, ⟨fun h => absurd rfl h⟩, by simp [sumQ]⟩
  · simp [Value.cells] at hcs
    obtain ⟨rfl, rfl, rfl⟩ := hcs
    obtain ⟨b, off, spot⟩ := a
    rw [cellsVal] at hat
    have pre : ∀ i, i < n0 → ∃ q : Qi, (∀ j c, ([.int .i64 q.2.2.t, .int .i64 q.2.2.z.x, .int .i64 q.2.2.z.y, .bool q.2.2.z.r, .bool q.2.2.b, .slice q.1 q.2.2.l.length q.2.1] : List Value)[j]? = some c → w.cell? (((⟨b, off, spot⟩ : Addr).add (i * 6)).add j) = some c) ∧ Nr w q.1 q.2.2.l ∧ (∀ e, elems[i]? = some e → q.2.2.l.length + 1 ≤ 2 * Rows.uptoBulk e.1) := by
      intro i hi
      have h1 := hat i hi
      have hlt : i < elems.length := by omega
      rw [List.getElem?_eq_getElem hlt] at h1
      obtain ⟨cs, hc, ht⟩ := Option.bind_eq_some_iff.1 h1
      obtain ⟨ao, cap', q, rfl, hr, hu, _, _⟩ := open_valC ht
      obtain ⟨_, _, hcell⟩ := World.cells?_some hc
      refine ⟨(ao, cap', q), fun j c hj => ?_, hr, fun e he => ?_⟩
      · have hj6 : j < 6 := by
          have := (List.getElem?_eq_some_iff.1 hj).1
          simpa using this
        rw [hcell j hj6]
        exact hj
      · rw [List.getElem?_eq_getElem hlt] at he
        simp only [Option.some.injEq] at he
        rw [← he]
        have := one_le elems[i].1
        simp only at hu ⊢
        omega
    have one : ∀ i, i < n0 → ∃ q : Qi, spot = none ∧ Q7 w b (off + i * 6) q ∧ (∀ e, elems[i]? = some e → q.2.2.l.length + 1 ≤ 2 * Rows.uptoBulk e.1) := by
      intro i hi
      obtain ⟨q0, c0, _, _⟩ := pre 0 (by omega)
      have hspot : spot = none := by simpa [Addr.add] using World.cell?_spot (c0 0 _ rfl)
      subst hspot
      obtain ⟨q, hc, hr, he⟩ := pre i hi
      have c0 := hc 0 _ rfl
      have c1 := hc 1 _ rfl
      have c2 := hc 2 _ rfl
      have c3 := hc 3 _ rfl
      have c4 := hc 4 _ rfl
      have c5 := hc 5 _ rfl
      simp only [Addr.add_mid] at c0 c1 c2 c3 c4 c5
      exact ⟨q, rfl, ⟨c0, c1, c2, c3, c4, c5, hr⟩, he⟩
    obtain ⟨qs, hql, hq⟩ := exists_list qi0 one
    subst hql
    refine ⟨some ⟨b, off, spot⟩, c0, qs, rfl, ⟨fun hne => ?_⟩, ?_⟩
    · have hp : 0 < qs.length := List.length_pos_iff.2 hne
      obtain ⟨rfl, _⟩ := hq 0 hp
      exact ⟨b, off, rfl, fun t ht => (hq t ht).2.1⟩
    · have hd : d = .slice (elems.map (·.1)) (rest.map (·.1)) := congrArg Prod.fst hx
      rw [hd]
      have := sum_le qs (elems.map (·.1)) (by simp [hel]) (fun i q e hq' he' => by
        have hil : i < qs.length := (List.getElem?_eq_some_iff.1 hq').1
        have h3 := (hq i hil).2.2
        rw [List.getD_eq_getElem?_getD, hq'] at h3
        rw [List.getElem?_map] at he'
        obtain ⟨e', he1, he2⟩ := Option.map_eq_some_iff.1 he'
        rw [← he2]
        exact h3 e' he1)
      simp only [Rows.uptoBulk]
      omega
end Go.Proofs.YtbgggbkmnfppoaaGreatDoor
