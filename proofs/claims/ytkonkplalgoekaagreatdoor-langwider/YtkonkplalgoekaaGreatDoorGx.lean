/-
  A program's own sizes are just enough as limits.
-/
import Derived.Test.YtkonkplalgoekaaGreatDoorGw
namespace Go.Proofs.YtkonkplalgoekaaGreatDoor
set_option maxHeartbeats 2000000

section
variable (M : Nat → Mk) (L : Lm)

theorem fit_def {f num k : Nat} {g : Fn1} {j : Nat} (h0 : 0 ≤ L.a) (hn : 0 ≤ L.n) (h : defP M L f num k = .ok g j) : (num : Int) < L.f ∧ FitA L g ∧ FitN L g := by
  obtain ⟨_, h2, h3⟩ := lim_def M L L h0 hn h
  by_cases e : L.f ≤ num ∨ ¬ FitA L g
  · obtain ⟨i, hi⟩ := h2 e
    rw [h] at hi
    cases hi
  · have e1 : (num : Int) < L.f := by
      by_cases hx : L.f ≤ num
      · exact absurd (.inl hx) e
      · omega
    have e2 : FitA L g := Classical.byContradiction fun hx => e (.inr hx)
    refine ⟨e1, e2, Classical.byContradiction fun hx => ?_⟩
    obtain ⟨i, hi⟩ := h3 e1 e2 hx
    rw [h] at hi
    cases hi

theorem fit_prog (h0 : 0 ≤ L.a) (hn : 0 ≤ L.n) : ∀ f acc k ps j, progL M L f acc k = .ok ps j → ∃ new, ps = acc ++ new ∧ (ps.length : Int) ≤ L.f ∧ ∀ g ∈ new, FitA L g ∧ FitN L g := by
  intro f
  induction f with
  | zero => intro acc k ps j h; cases h
  | succ f ih =>
    intro acc k ps j h
    rw [progL] at h
    obtain ⟨g, k1, h1, h2⟩ := bind_eq.1 h
    obtain ⟨d1, d2, d3⟩ := fit_def M L h0 hn h1
    split at h2
    · cases h2
      refine ⟨[g], rfl, ?_, fun x hx => ?_⟩
      · simp only [List.length_append, List.length_cons, List.length_nil]; omega
      · obtain rfl := List.mem_singleton.1 hx
        exact ⟨d2, d3⟩
    · obtain ⟨new, i0, i1, i2⟩ := ih _ _ _ _ h2
      subst i0
      refine ⟨g :: new, by simp, i1, fun x hx => ?_⟩
      rcases List.mem_cons.1 hx with rfl | hx
      · exact ⟨d2, d3⟩
      · exact i2 x hx
end

/-- The greatest number of parameters. -/
def mxA : List Fn1 → Nat
  | [] => 0
  | g :: r => max g.pms.length (mxA r)
/-- The greatest nesting of all bodies. -/
def mxN : List Fn1 → Nat
  | [] => 0
  | g :: r => max (nE g.body) (mxN r)

theorem mxA_snoc : ∀ (gs : List Fn1) (g : Fn1), mxA (gs ++ [g]) = max (mxA gs) g.pms.length
  | [], g => by simp [mxA]
  | y :: gs, g => by simp only [List.cons_append, mxA, mxA_snoc gs g]; omega
theorem mxN_snoc : ∀ (gs : List Fn1) (g : Fn1), mxN (gs ++ [g]) = max (mxN gs) (nE g.body)
  | [], g => by simp [mxN]
  | y :: gs, g => by simp only [List.cons_append, mxN, mxN_snoc gs g]; omega

theorem mxA_fit (L : Lm) (h0 : 0 ≤ L.a) : ∀ gs : List Fn1, (∀ g ∈ gs, FitA L g) ↔ (mxA gs : Int) ≤ L.a
  | [] => by simp [mxA, h0]
  | g :: gs => by
    have ih := mxA_fit L h0 gs
    rw [List.forall_mem_cons, ih]
    simp only [mxA, FitA]
    omega
theorem mxN_fit (L : Lm) (h0 : 0 ≤ L.n) : ∀ gs : List Fn1, (∀ g ∈ gs, FitN L g) ↔ (mxN gs : Int) ≤ L.n
  | [] => by simp [mxN, h0]
  | g :: gs => by
    have ih := mxN_fit L h0 gs
    rw [List.forall_mem_cons, ih]
    simp only [mxN, FitN]
    omega

/-- What is parsed under some limits: it fits them, and what other limits make of it. -/
theorem wider (M : Nat → Mk) (L : Lm) (h0 : 0 ≤ L.a) (hn : 0 ≤ L.n) {f : Nat} {gs : List Fn1} {j : Nat} (h : progL M L f [] 0 = .ok gs j) :
    (gs.length : Int) ≤ L.f ∧ (mxA gs : Int) ≤ L.a ∧ (mxN gs : Int) ≤ L.n ∧ ∀ L' : Lm, 0 ≤ L'.f → 0 ≤ L'.a → 0 ≤ L'.n →
      ((gs.length : Int) ≤ L'.f → (mxA gs : Int) ≤ L'.a → (mxN gs : Int) ≤ L'.n → progL M L' f [] 0 = .ok gs j) ∧
      ((mxN gs : Int) ≤ L'.n → (L'.f < gs.length ∨ L'.a < mxA gs) → ∃ i, progL M L' f [] 0 = .bad 22 i) ∧
      ((gs.length : Int) ≤ L'.f → (mxA gs : Int) ≤ L'.a → L'.n < mxN gs → ∃ i, progL M L' f [] 0 = .bad 23 i) := by
  obtain ⟨new, e, f1, f2⟩ := fit_prog M L h0 hn _ _ _ _ _ h
  obtain rfl : gs = new := by simpa using e
  refine ⟨f1, (mxA_fit L h0 gs).1 fun g hg => (f2 g hg).1, (mxN_fit L hn gs).1 fun g hg => (f2 g hg).2, fun L' q0 q1 q2 => ?_⟩
  obtain ⟨new', e', g1, g2, g3⟩ := lim_prog M L L' q1 q2 _ _ _ _ _ h
  obtain rfl : gs = new' := by simpa using e'
  rw [mxA_fit L' q1, mxN_fit L' q2] at g1 g2 g3
  refine ⟨g1, fun a b => g2 (by simpa using q0) a ?_, fun a b c => g3 a b (by omega)⟩
  omega
end Go.Proofs.YtkonkplalgoekaaGreatDoor
