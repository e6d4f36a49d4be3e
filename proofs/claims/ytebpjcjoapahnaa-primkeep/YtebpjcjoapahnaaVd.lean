/-
  What is sound is a value; the walks of Check, slices.Equal, Same.
-/
import Derived.Test.YtebpjcjoapahnaaVc
import Derived.RegionTactic
namespace Go.Proofs.Ytebpjcjoapahnaa
open Go.RowKit
open Go.Lib
set_option maxRecDepth 100000

/-- The words of a number; the fields of a value. -/
def wz (z : Zn) : Wz := (fl z.1, fl z.2)
def ofV : Vl → Rv
  | .n z => ⟨1, wz z, false, []⟩
  | .b r => ⟨2, (0, 0), r, []⟩
  | .l zs => ⟨3, (0, 0), false, zs.map wz⟩

theorem okZ53 {z : Zn} (h : okZ z) : z.1.natAbs < 2 ^ 53 ∧ z.2.natAbs < 2 ^ 53 := by unfold okZ at h; omega
theorem wz_lt {z : Zn} (h : okZ z) : ltZ (wz z) := ⟨fl_lt _ (okZ53 h).1, fl_lt _ (okZ53 h).2⟩
theorem vc_wz {z : Zn} (h : okZ z) : vc (wz z).1 (wz z).2 = true := by
  unfold vc wz
  simp only
  rw [vp_fl _ h.1, vp_fl _ h.2]; rfl
theorem wz_of {z : Wz} (h : vc z.1 z.2 = true) : okZ (nb z.1, nb z.2) ∧ wz (nb z.1, nb z.2) = z := by
  obtain ⟨h1, h2⟩ := vc_parts h
  obtain ⟨a1, a2⟩ := vp_true h1
  obtain ⟨b1, b2⟩ := vp_true h2
  refine ⟨⟨a1, b1⟩, ?_⟩
  unfold wz
  rw [← a2, ← b2]
theorem wz_inj {z y : Zn} (hz : okZ z) (hy : okZ y) (h : wz z = wz y) : z = y := by
  unfold wz at h
  simp only [Prod.mk.injEq] at h
  exact Prod.ext (fl_inj (okZ53 hz).1 (okZ53 hy).1 h.1) (fl_inj (okZ53 hz).2 (okZ53 hy).2 h.2)

/-- Floats that are numbers' parts are equal just if their words are. -/
theorem feq_fl {p q : Int} (hp : p.natAbs ≤ 16777216) (hq : q.natAbs ≤ 16777216) : Op.floatEq .f64 (fl p) (fl q) = decide (p = q) := by
  have h1 := rep_order (rep_fl p (by omega)) (rep_fl q (by omega))
  unfold Op.floatEq
  rw [h1]
  by_cases h : p = q
  · rw [h]; simp
  · have : compare p q ≠ .eq := by simpa [Int.compare_eq_eq] using h
    simp [h]
theorem feW_wz {z y : Zn} (hz : okZ z) (hy : okZ y) : feW (wz z) (wz y) = decide (wz z = wz y) := by
  unfold feW wz
  rw [feq_fl hz.1 hy.1, feq_fl hz.2 hy.2, Bool.eq_iff_iff]
  simp only [Bool.and_eq_true, decide_eq_true_eq, Prod.mk.injEq]
  constructor
  · rintro ⟨a, b⟩; rw [a, b]; exact ⟨rfl, rfl⟩
  · rintro ⟨a, b⟩; exact ⟨fl_inj (okZ53 hz).1 (okZ53 hy).1 a, fl_inj (okZ53 hz).2 (okZ53 hy).2 b⟩
theorem feW_vc {z y : Wz} (hz : vc z.1 z.2 = true) (hy : vc y.1 y.2 = true) : feW z y = decide (z = y) := by
  obtain ⟨h1, h2⟩ := wz_of hz
  obtain ⟨h3, h4⟩ := wz_of hy
  have := feW_wz h1 h3
  rwa [h2, h4] at this
theorem vc_zero : vc 0 0 = true := by
  have := vc_wz (z := (0, 0)) (by unfold okZ; simp)
  exact this
theorem zeroV_eq (z : Wz) : zeroV z = decide (z = (0, 0)) := by
  unfold zeroV
  cases hv : vc z.1 z.2 with
  | true => rw [feW_vc hv vc_zero, Bool.and_true]
  | false =>
    rw [Bool.and_false]
    symm
    rw [decide_eq_false_iff_not]
    intro e
    rw [e, vc_zero] at hv
    cases hv

theorem sound_ofV {u : Vl} (h : okV u) : soundV (ofV u) = true := by
  cases u with
  | n z => simp only [ofV, soundV]; rw [vc_wz h]; rfl
  | b r => simp only [ofV, soundV]; rw [zeroV_eq]; rfl
  | l zs =>
    simp only [ofV, soundV]
    rw [zeroV_eq]
    have : allV (zs.map wz) = true := by
      unfold allV
      rw [List.all_eq_true]
      intro z hz
      obtain ⟨y, hy, rfl⟩ := List.mem_map.1 hz
      exact vc_wz (h y hy)
    rw [this]; rfl

theorem all_of {zs : List Wz} (h : allV zs = true) : ∃ ys : List Zn, (∀ y ∈ ys, okZ y) ∧ zs = ys.map wz := by
  induction zs with
  | nil => exact ⟨[], by simp, rfl⟩
  | cons z r ih =>
    unfold allV at h
    rw [List.all_cons, Bool.and_eq_true] at h
    obtain ⟨ys, h1, h2⟩ := ih h.2
    obtain ⟨h3, h4⟩ := wz_of h.1
    refine ⟨(nb z.1, nb z.2) :: ys, ?_, by rw [List.map_cons, h4, h2]⟩
    intro y hy
    rcases List.mem_cons.1 hy with e | e
    · rw [e]; exact h3
    · exact h1 y e

theorem sound_is {v : Rv} (h : soundV v = true) : ∃ u, okV u ∧ v = ofV u := by
  obtain ⟨t, z, r, zs⟩ := v
  unfold soundV at h
  simp only at h
  split at h
  · rename_i e
    simp only [Bool.and_eq_true, Bool.not_eq_true', List.isEmpty_iff] at h
    obtain ⟨h3, h4⟩ := wz_of h.1.1
    exact ⟨.n (nb z.1, nb z.2), h3, by rw [ofV, h4, e, h.1.2, h.2]⟩
  · split at h
    · rename_i e
      rw [zeroV_eq] at h
      simp only [Bool.and_eq_true, decide_eq_true_eq, List.isEmpty_iff] at h
      exact ⟨.b r, trivial, by rw [ofV, e, h.1, h.2]⟩
    · split at h
      · rename_i e
        rw [zeroV_eq] at h
        simp only [Bool.and_eq_true, decide_eq_true_eq, Bool.not_eq_true'] at h
        obtain ⟨ys, h1, h2⟩ := all_of h.2
        exact ⟨.l ys, h1, by rw [ofV, e, h.1.1, h.1.2, h2]⟩
      · cases h

theorem map_wz_inj {xs ys : List Zn} : (∀ x ∈ xs, okZ x) → (∀ y ∈ ys, okZ y) → xs.map wz = ys.map wz → xs = ys := by
  induction xs generalizing ys with
  | nil => intro _ _ h; cases ys <;> simp_all
  | cons x r ih =>
    intro h1 h2 h
    cases ys with
    | nil => simp at h
    | cons y t =>
      simp only [List.map_cons, List.cons.injEq] at h
      rw [wz_inj (h1 x (by simp)) (h2 y (by simp)) h.1, ih (fun z hz => h1 z (by simp [hz])) (fun z hz => h2 z (by simp [hz])) h.2]

theorem ofV_inj {u v : Vl} (hu : okV u) (hv : okV v) (h : ofV u = ofV v) : u = v := by
  cases u with
  | n z =>
    cases v with
    | n y => simp only [ofV, Rv.mk.injEq, true_and] at h; rw [wz_inj hu hv h.1]
    | b r => simp [ofV] at h
    | l zs => simp [ofV] at h
  | b r =>
    cases v with
    | n y => simp [ofV] at h
    | b s => simp only [ofV, Rv.mk.injEq, true_and, and_true] at h; rw [h]
    | l zs => simp [ofV] at h
  | l zs =>
    cases v with
    | n y => simp [ofV] at h
    | b s => simp [ofV] at h
    | l ys => simp only [ofV, Rv.mk.injEq, true_and] at h; rw [map_wz_inj hu hv h]

/-- Are both values, and the same? -/
def sameV (v u : Rv) : Bool := soundV v && soundV u && decide (v = u)

/-- Two lists held against one another, element by element. -/
def eqZ (xs ys : List Wz) : Bool := decide (xs.length = ys.length) && (xs.zip ys).all fun p => feW p.1 p.2

theorem allV_mem {zs : List Wz} (h : allV zs = true) : ∀ z ∈ zs, vc z.1 z.2 = true := by
  unfold allV at h
  rw [List.all_eq_true] at h
  exact h

theorem eqZ_eq : ∀ {xs ys : List Wz}, allV xs = true → allV ys = true → eqZ xs ys = decide (xs = ys) := by
  intro xs
  induction xs with
  | nil => intro ys _ _; cases ys <;> simp [eqZ]
  | cons x r ih =>
    intro ys h1 h2
    cases ys with
    | nil => simp [eqZ]
    | cons y t =>
      unfold allV at h1 h2
      rw [List.all_cons, Bool.and_eq_true] at h1 h2
      have := @ih t h1.2 h2.2
      unfold eqZ at this ⊢
      simp only [List.zip_cons_cons, List.all_cons, List.length_cons]
      rw [feW_vc h1.1 h2.1]
      rw [Bool.eq_iff_iff] at this ⊢
      simp only [Bool.and_eq_true, decide_eq_true_eq, List.cons.injEq, Nat.add_right_cancel_iff] at this ⊢
      constructor
      · rintro ⟨a, b, c⟩; exact ⟨b, this.1 ⟨a, c⟩⟩
      · rintro ⟨a, b⟩; exact ⟨(this.2 b).1, a, (this.2 b).2⟩

theorem eqZ_no {xs ys : List Wz} {k : Nat} (h1 : k < xs.length) (h2 : k < ys.length) (h : feW (xs.getD k (0, 0)) (ys.getD k (0, 0)) = false) : eqZ xs ys = false := by
  unfold eqZ
  rw [Bool.and_eq_false_iff]
  right
  rw [List.all_eq_false]
  refine ⟨(xs[k], ys[k]), ?_, ?_⟩
  · rw [List.mem_iff_getElem]
    exact ⟨k, by simp; omega, by simp⟩
  · rw [List.getD_eq_getElem?_getD, List.getD_eq_getElem?_getD, List.getElem?_eq_getElem h1, List.getElem?_eq_getElem h2] at h
    simpa using h

theorem eqZ_yes {xs ys : List Wz} (hl : xs.length = ys.length) (h : ∀ k, k < xs.length → feW (xs.getD k (0, 0)) (ys.getD k (0, 0)) = true) : eqZ xs ys = true := by
  unfold eqZ
  rw [decide_eq_true hl, Bool.true_and, List.all_eq_true]
  rintro ⟨a, b⟩ hm
  obtain ⟨k, hk, e⟩ := List.mem_iff_getElem.1 hm
  simp only [List.length_zip] at hk
  have h3 := h k (by omega)
  rw [List.getD_eq_getElem?_getD, List.getD_eq_getElem?_getD, List.getElem?_eq_getElem (by omega), List.getElem?_eq_getElem (by omega)] at h3
  simp only [List.getElem_zip, Prod.mk.injEq] at e
  rw [← e.1, ← e.2]
  simpa using h3

set_option maxHeartbeats 400000 in
theorem check_any (v : Rv) (ao : Option Addr) (cap : Nat) (w : World) (hz : ltZ v.z) (h : Zr w ao v.zs) (hl : v.zs.length ≤ 5864062014806) :
    Calls Try.prog 46 #[vV ao cap v] w fun e w' => e = .returned (.int .i64 (if soundV v then 0 else 3)) ∧ Below w.heap.size w w' := by
  have hs := fun o => sound_any v ao cap (w.alloc o) hz (h.alloc o) hl
  unfold vV at *
  cases hv : soundV v with
  | true =>
    rw [hv] at hs
    clear h hz hl hv
    go_enter Try.func46, Try.ntmps46
    go_wp2_with fail
    refine (hs _).mono ?_
    rintro e w1 ⟨rfl, hb⟩
    go_wp2
    go_ret
    exact ⟨rfl, Below.thn (below_alloc _ _) hb⟩
  | false =>
    rw [hv] at hs
    clear h hz hl hv
    go_enter Try.func46, Try.ntmps46
    go_wp2_with fail
    refine (hs _).mono ?_
    rintro e w1 ⟨rfl, hb⟩
    go_wp2
    go_ret
    exact ⟨rfl, Below.thn (below_alloc _ _) hb⟩

end Go.Proofs.Ytebpjcjoapahnaa
