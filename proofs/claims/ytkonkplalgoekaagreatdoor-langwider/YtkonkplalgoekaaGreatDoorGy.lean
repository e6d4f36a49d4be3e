/-
  An expression has no more parts than marks are read for it.
-/
import Derived.Test.YtkonkplalgoekaaGreatDoorGx
namespace Go.Proofs.YtkonkplalgoekaaGreatDoor
set_option maxHeartbeats 2000000

mutual
/-- How many expressions it is. -/
def szE : Ex → Nat
  | .mk _ _ _ _ _ _ ps _ => szL ps + 1
def szL : List Ex → Nat
  | [] => 0
  | x :: xs => szE x + szL xs
end

theorem szE_mk (op : Int) (a b : List UInt8) (t p q : Int) (ps : List Ex) (at_ : Nat) : szE (.mk op a b t p q ps at_) = szL ps + 1 := by rw [szE]
theorem szL_nil : szL [] = 0 := by rw [szL]
theorem szL_cons (x : Ex) (xs : List Ex) : szL (x :: xs) = szE x + szL xs := by rw [szL]
theorem szL_snoc : ∀ (xs : List Ex) (x : Ex), szL (xs ++ [x]) = szL xs + szE x
  | [], x => by simp [szL]
  | y :: xs, x => by simp only [List.cons_append, szL, szL_snoc xs x]; omega
theorem szE_two (op : Int) (a b : Ex) (m : Mk) : szE (two op a b m) = szE a + szE b + 1 := by
  unfold two
  rw [szE_mk, szL_cons, szL_cons, szL_nil]; omega
theorem szE_pos (x : Ex) : 0 < szE x := by
  cases x
  rw [szE_mk]
  omega
theorem length_szL : ∀ xs : List Ex, xs.length ≤ szL xs
  | [] => by simp [szL]
  | x :: xs => by
    have := length_szL xs
    have := szE_pos x
    simp only [szL, List.length_cons]
    omega

/-- What is read from k on is no more than the marks that are read, but for c. -/
def Zs {α : Type} (sz : α → Nat) (k c : Nat) (q : Rs α) : Prop := ∀ a j, q = .ok a j → k + sz a ≤ j + c

theorem Zs.ok {α : Type} {sz : α → Nat} {k c j : Nat} {a : α} (h : k + sz a ≤ j + c) : Zs sz k c (.ok a j) := by
  intro b i e
  cases e
  exact h
theorem Zs.bad {α : Type} {sz : α → Nat} {k c j : Nat} {y : Int} : Zs sz k c (.bad y j) := by
  intro b i e
  cases e
theorem Zs.out {α : Type} {sz : α → Nat} {k c : Nat} : Zs sz k c .out := by
  intro b i e
  cases e
theorem Zs.le {α : Type} {sz : α → Nat} {k c k' c' : Nat} {q : Rs α} (h : Zs sz k' c' q) (hl : k + c' ≤ k' + c) : Zs sz k c q := by
  intro b i e
  have := h b i e
  omega
theorem Zs.ite {α : Type} {sz : α → Nat} {k c : Nat} {p : Prop} [Decidable p] {x y : Rs α} (h1 : Zs sz k c x) (h2 : Zs sz k c y) : Zs sz k c (if p then x else y) := by
  by_cases h : p
  · rw [if_pos h]; exact h1
  · rw [if_neg h]; exact h2
theorem Zs.part {α β : Type} {sz : β → Nat} {sa : α → Nat} {k c k' c' : Nat} {q : Rs α} {g : α → Nat → Rs β} (hq : Zs sa k' c' q) (h : ∀ a j, k' + sa a ≤ j + c' → Zs sz k c (g a j)) : Zs sz k c (q.bind g) := by
  intro b i e
  obtain ⟨a, j, e1, e2⟩ := bind_eq.1 e
  exact h a j (hq a j e1) b i e2

section
variable (M : Nat → Mk) (L : Lm)
theorem zs_must (s : List UInt8) (k : Nat) : Zs (fun _ => 1) k 0 (mustP M s k) := by
  unfold mustP
  exact Zs.ite (Zs.ok (by omega)) Zs.bad
theorem zs_name (k : Nat) : Zs (fun _ => 1) k 0 (nameP M k) := by
  unfold nameP
  exact Zs.ite (Zs.ok (by omega)) Zs.bad
theorem zs_nameOf (n : Nat) (m : Int) (k : Nat) : Zs (fun _ => 1) k 0 (nameOfP M n m k) := by
  unfold nameOfP
  exact Zs.ite Zs.bad (zs_name M k)
theorem zs_type (k : Nat) : Zs (fun _ => 1) k 0 (typeP M k) := by
  unfold typeP
  exact Zs.ite (Zs.ok (by omega)) (Zs.ite (Zs.ok (by omega)) (Zs.ite (Zs.ok (by omega)) Zs.bad))

structure AllZs (f : Nat) : Prop where
  exprP : ∀ d k, Zs szE k 0 (Proofs.YtkonkplalgoekaaGreatDoor.exprP M L f d k)
  bindP : ∀ op d k, Zs szE k 0 (Proofs.YtkonkplalgoekaaGreatDoor.bindP M L f op d k)
  ifP : ∀ d k, Zs szE k 0 (Proofs.YtkonkplalgoekaaGreatDoor.ifP M L f d k)
  caseP : ∀ d k, Zs szE k 0 (Proofs.YtkonkplalgoekaaGreatDoor.caseP M L f d k)
  consP : ∀ d k, Zs szE k 0 (Proofs.YtkonkplalgoekaaGreatDoor.consP M L f d k)
  compP : ∀ d k, Zs szE k 0 (Proofs.YtkonkplalgoekaaGreatDoor.compP M L f d k)
  sumP : ∀ d k, Zs szE k 0 (Proofs.YtkonkplalgoekaaGreatDoor.sumP M L f d k)
  sumL : ∀ d a k, Zs szE k (szE a) (Proofs.YtkonkplalgoekaaGreatDoor.sumL M L f d a k)
  termP : ∀ d k, Zs szE k 0 (Proofs.YtkonkplalgoekaaGreatDoor.termP M L f d k)
  termL : ∀ d a k, Zs szE k (szE a) (Proofs.YtkonkplalgoekaaGreatDoor.termL M L f d a k)
  unitP : ∀ d k, Zs szE k 0 (Proofs.YtkonkplalgoekaaGreatDoor.unitP M L f d k)
  namedP : ∀ d k, Zs szE k 0 (Proofs.YtkonkplalgoekaaGreatDoor.namedP M L f d k)
  wordedP : ∀ d k, Zs szE k 0 (Proofs.YtkonkplalgoekaaGreatDoor.wordedP M L f d k)
  brackP : ∀ d k, Zs szE k 0 (Proofs.YtkonkplalgoekaaGreatDoor.brackP M L f d k)
  argsP : ∀ d k, Zs szL k 0 (Proofs.YtkonkplalgoekaaGreatDoor.argsP M L f d k)
  argsL : ∀ d acc k, Zs szL k (szL acc) (Proofs.YtkonkplalgoekaaGreatDoor.argsL M L f d acc k)

theorem allZs : ∀ f, AllZs M L f := by
  intro f
  induction f with
  | zero =>
    constructor
    · intro d k; rw [Proofs.YtkonkplalgoekaaGreatDoor.exprP]; exact Zs.out
    · intro op d k; rw [Proofs.YtkonkplalgoekaaGreatDoor.bindP]; exact Zs.out
    · intro d k; rw [Proofs.YtkonkplalgoekaaGreatDoor.ifP]; exact Zs.out
    · intro d k; rw [Proofs.YtkonkplalgoekaaGreatDoor.caseP]; exact Zs.out
    · intro d k; rw [Proofs.YtkonkplalgoekaaGreatDoor.consP]; exact Zs.out
    · intro d k; rw [Proofs.YtkonkplalgoekaaGreatDoor.compP]; exact Zs.out
    · intro d k; rw [Proofs.YtkonkplalgoekaaGreatDoor.sumP]; exact Zs.out
    · intro d a k; rw [Proofs.YtkonkplalgoekaaGreatDoor.sumL]; exact Zs.out
    · intro d k; rw [Proofs.YtkonkplalgoekaaGreatDoor.termP]; exact Zs.out
    · intro d a k; rw [Proofs.YtkonkplalgoekaaGreatDoor.termL]; exact Zs.out
    · intro d k; rw [Proofs.YtkonkplalgoekaaGreatDoor.unitP]; exact Zs.out
    · intro d k; rw [Proofs.YtkonkplalgoekaaGreatDoor.namedP]; exact Zs.out
    · intro d k; rw [Proofs.YtkonkplalgoekaaGreatDoor.wordedP]; exact Zs.out
    · intro d k; rw [Proofs.YtkonkplalgoekaaGreatDoor.brackP]; exact Zs.out
    · intro d k; rw [Proofs.YtkonkplalgoekaaGreatDoor.argsP]; exact Zs.out
    · intro d acc k; rw [Proofs.YtkonkplalgoekaaGreatDoor.argsL]; exact Zs.out
  | succ f ih =>
    constructor
    · intro d k; rw [Proofs.YtkonkplalgoekaaGreatDoor.exprP]
      exact Zs.ite (ih.bindP _ _ _) (Zs.ite (ih.bindP _ _ _) (Zs.ite (ih.ifP _ _) (Zs.ite (ih.caseP _ _) (ih.consP _ _))))
    · intro op d k; rw [Proofs.YtkonkplalgoekaaGreatDoor.bindP]
      refine Zs.ite Zs.bad ?_
      refine Zs.part (zs_name M _) fun x k1 h1 => Zs.part (zs_type M _) fun t k2 h2 => Zs.part (zs_must M _ _) fun _ k3 h3 => Zs.part (ih.exprP _ _) fun a k4 h4 => Zs.part (zs_must M _ _) fun _ k5 h5 => Zs.part (ih.exprP _ _) fun b k6 h6 => Zs.ok ?_
      rw [szE_mk, szL_cons, szL_cons, szL_nil]; omega
    · intro d k; rw [Proofs.YtkonkplalgoekaaGreatDoor.ifP]
      refine Zs.part (ih.exprP _ _) fun a k1 h1 => Zs.part (zs_must M _ _) fun _ k2 h2 => Zs.part (ih.exprP _ _) fun b k3 h3 => Zs.part (zs_must M _ _) fun _ k4 h4 => Zs.part (ih.exprP _ _) fun c k5 h5 => Zs.ok ?_
      rw [szE_mk, szL_cons, szL_cons, szL_cons, szL_nil]; omega
    · intro d k; rw [Proofs.YtkonkplalgoekaaGreatDoor.caseP]
      refine Zs.ite Zs.bad ?_
      refine Zs.part (ih.exprP _ _) fun a k1 h1 => Zs.part (zs_must M _ _) fun _ k2 h2 => Zs.part (zs_must M _ _) fun _ k3 h3 => Zs.part (zs_must M _ _) fun _ k4 h4 => Zs.part (ih.exprP _ _) fun b k5 h5 => ?_
      refine Zs.part (zs_must M _ _) fun _ k6 h6 => Zs.part (zs_name M _) fun x k7 h7 => Zs.part (zs_must M _ _) fun _ k8 h8 => Zs.part (zs_name M _) fun y k9 h9 => Zs.part (zs_must M _ _) fun _ k10 h10 => Zs.part (ih.exprP _ _) fun c k11 h11 => Zs.ok ?_
      rw [szE_mk, szL_cons, szL_cons, szL_cons, szL_nil]; omega
    · intro d k; rw [Proofs.YtkonkplalgoekaaGreatDoor.consP]
      refine Zs.part (ih.compP _ _) fun a k1 h1 => Zs.ite (Zs.part (ih.consP _ _) fun b k2 h2 => Zs.ok ?_) (Zs.ok (by omega))
      rw [szE_two]; omega
    · intro d k; rw [Proofs.YtkonkplalgoekaaGreatDoor.compP]
      refine Zs.part (ih.sumP _ _) fun a k1 h1 => Zs.ite (Zs.part (ih.sumP _ _) fun b k2 h2 => Zs.ok ?_) (Zs.ite (Zs.part (ih.sumP _ _) fun b k2 h2 => Zs.ok ?_) (Zs.ok (by omega)))
      · rw [szE_two]; omega
      · rw [szE_two]; omega
    · intro d k; rw [Proofs.YtkonkplalgoekaaGreatDoor.sumP]
      exact Zs.part (ih.termP _ _) fun a k1 h1 => (ih.sumL _ _ _).le (by omega)
    · intro d a k; rw [Proofs.YtkonkplalgoekaaGreatDoor.sumL]
      refine Zs.ite (Zs.part (ih.termP _ _) fun b k1 h1 => (ih.sumL _ _ _).le ?_) (Zs.ite (Zs.part (ih.termP _ _) fun b k1 h1 => (ih.sumL _ _ _).le ?_) (Zs.ok (by omega)))
      · rw [szE_two]; omega
      · rw [szE_two]; omega
    · intro d k; rw [Proofs.YtkonkplalgoekaaGreatDoor.termP]
      exact Zs.part (ih.unitP _ _) fun a k1 h1 => (ih.termL _ _ _).le (by omega)
    · intro d a k; rw [Proofs.YtkonkplalgoekaaGreatDoor.termL]
      refine Zs.ite (Zs.part (ih.unitP _ _) fun b k1 h1 => (ih.termL _ _ _).le ?_) (Zs.ite (Zs.part (ih.unitP _ _) fun b k1 h1 => (ih.termL _ _ _).le ?_) (Zs.ok (by omega)))
      · rw [szE_two]; omega
      · rw [szE_two]; omega
    · intro d k; rw [Proofs.YtkonkplalgoekaaGreatDoor.unitP]
      refine Zs.ite (Zs.ok ?_) (Zs.ite (ih.namedP _ _) (Zs.ite (ih.wordedP _ _) (ih.brackP _ _)))
      rw [szE_mk, szL_nil]; omega
    · intro d k; rw [Proofs.YtkonkplalgoekaaGreatDoor.namedP]
      refine Zs.ite (Zs.part (ih.argsP _ _) fun l k1 h1 => Zs.ok ?_) (Zs.ok ?_)
      · rw [szE_mk]; omega
      · rw [szE_mk, szL_nil]; omega
    · intro d k; rw [Proofs.YtkonkplalgoekaaGreatDoor.wordedP]
      refine Zs.ite Zs.bad (Zs.ite (Zs.part (zs_type M _) fun t k1 h1 => Zs.ok ?_) (Zs.ite (Zs.part (ih.brackP _ _) fun e k1 h1 => Zs.ok ?_) (Zs.ok ?_)))
      · rw [szE_mk, szL_nil]; omega
      · rw [szE_mk, szL_cons, szL_nil]; omega
      · rw [szE_mk, szL_nil]; omega
    · intro d k; rw [Proofs.YtkonkplalgoekaaGreatDoor.brackP]
      exact Zs.part (zs_must M _ _) fun _ k1 h1 => Zs.part (ih.exprP _ _) fun e k2 h2 => Zs.part (zs_must M _ _) fun _ k3 h3 => Zs.ok (by omega)
    · intro d k; rw [Proofs.YtkonkplalgoekaaGreatDoor.argsP]
      refine Zs.ite (Zs.ok ?_) (Zs.part (ih.exprP _ _) fun a k1 h1 => (ih.argsL _ _ _).le ?_)
      · rw [szL_nil]; omega
      · rw [szL_cons, szL_nil]; omega
    · intro d acc k; rw [Proofs.YtkonkplalgoekaaGreatDoor.argsL]
      refine Zs.ite (Zs.part (ih.exprP _ _) fun a k1 h1 => (ih.argsL _ _ _).le ?_) (Zs.part (zs_must M _ _) fun _ k1 h1 => Zs.ok (by omega))
      rw [szL_snoc]; omega

theorem sz_def {f num k : Nat} {g : Fn1} {j : Nat} (h : defP M L f num k = .ok g j) : k ≤ j ∧ szE g.body ≤ j := by
  have hg := ge_def M L f num k
  rw [h] at hg
  refine ⟨hg, ?_⟩
  unfold defP at h
  obtain ⟨x, k1, h1, h2⟩ := bind_eq.1 h
  obtain ⟨ps, k2, h3, h4⟩ := bind_eq.1 h2
  obtain ⟨_, k3, h5, h6⟩ := bind_eq.1 h4
  obtain ⟨t, k4, h7, h8⟩ := bind_eq.1 h6
  obtain ⟨_, k5, h9, h10⟩ := bind_eq.1 h8
  obtain ⟨b, k6, h11, h12⟩ := bind_eq.1 h10
  obtain ⟨_, k7, h13, h14⟩ := bind_eq.1 h12
  cases h14
  have q1 := (allZs M L f).exprP _ _ _ _ h11
  have q2 := zs_must M _ _ _ _ h13
  dsimp only
  omega

/-- All bodies together with their marks. -/
theorem sz_prog : ∀ f acc k gs j, progL M L f acc k = .ok gs j → (∀ g ∈ acc, szE g.body ≤ j) → ∀ g ∈ gs, szE g.body ≤ j := by
  intro f
  induction f with
  | zero => intro acc k gs j h; cases h
  | succ f ih =>
    intro acc k gs j h ha
    rw [progL] at h
    obtain ⟨g, k1, h1, h2⟩ := bind_eq.1 h
    obtain ⟨_, q2⟩ := sz_def M L h1
    split at h2
    · cases h2
      intro x hx
      rcases List.mem_append.1 hx with hx | hx
      · exact ha x hx
      · obtain rfl := List.mem_singleton.1 hx
        exact q2
    · refine ih _ _ _ _ h2 fun x hx => ?_
      have hj := ge_prog M L f (acc ++ [g]) k1
      rw [h2] at hj
      have hj' : k1 ≤ j := hj
      rcases List.mem_append.1 hx with hx | hx
      · exact ha x hx
      · obtain rfl := List.mem_singleton.1 hx
        omega
end

mutual
theorem nE_le : ∀ x : Ex, nE x ≤ szE x
  | .mk op a b t p q ps i => by
    have := nL_le ps
    rw [nE_mk, szE_mk]
    split <;> omega
theorem nL_le : ∀ xs : List Ex, nL xs ≤ szL xs
  | [] => by rw [nL_nil]; omega
  | x :: xs => by
    have := nE_le x
    have := nL_le xs
    rw [nL_cons, szL_cons]
    omega
end

/-! ## Member by member -/
abbrev ed : Ex := .mk 0 [] [] 0 0 0 [] 0
abbrev fd : Fn1 := ⟨[], [], 0, ed, 0⟩
abbrev pd : Pm := ⟨[], 0, 0⟩

theorem szE_at : ∀ (xs : List Ex) (k : Nat), k < xs.length → szE (xs.getD k ed) ≤ szL xs
  | [], k, h => by simp at h
  | x :: xs, 0, _ => by rw [szL_cons, List.getD_cons_zero]; omega
  | x :: xs, k + 1, h => by
    have := szE_at xs k (by simpa using h)
    rw [szL_cons, List.getD_cons_succ]
    omega
theorem nL_take : ∀ (xs : List Ex) (k : Nat), k < xs.length → nL (xs.take (k + 1)) = max (nL (xs.take k)) (nE (xs.getD k ed))
  | [], k, h => by simp at h
  | x :: xs, 0, _ => by rw [List.take_succ_cons, List.take_zero, List.take_zero, List.getD_cons_zero, nL_cons, nL_nil]; omega
  | x :: xs, k + 1, h => by
    have := nL_take xs k (by simpa using h)
    rw [List.take_succ_cons, List.take_succ_cons, List.getD_cons_succ, nL_cons, nL_cons, this]
    omega
theorem mxA_take : ∀ (xs : List Fn1) (k : Nat), k < xs.length → mxA (xs.take (k + 1)) = max (mxA (xs.take k)) (xs.getD k fd).pms.length
  | [], k, h => by simp at h
  | x :: xs, 0, _ => by simp [mxA]
  | x :: xs, k + 1, h => by
    have := mxA_take xs k (by simpa using h)
    rw [List.take_succ_cons, List.take_succ_cons, List.getD_cons_succ]
    simp only [mxA]
    omega
theorem mxN_take : ∀ (xs : List Fn1) (k : Nat), k < xs.length → mxN (xs.take (k + 1)) = max (mxN (xs.take k)) (nE (xs.getD k fd).body)
  | [], k, h => by simp at h
  | x :: xs, 0, _ => by simp [mxN]
  | x :: xs, k + 1, h => by
    have := mxN_take xs k (by simpa using h)
    rw [List.take_succ_cons, List.take_succ_cons, List.getD_cons_succ]
    simp only [mxN]
    omega
theorem ExsR.length {ρ : Nat → Nat → Prop} : ∀ {xs ys : List Ex}, ExsR ρ xs ys → xs.length = ys.length
  | [], _, h => by cases h; rfl
  | _ :: _, _, h => by cases h with | cons h1 h2 => simp [h2.length]
theorem ExsR.at {ρ : Nat → Nat → Prop} : ∀ {xs ys : List Ex}, ExsR ρ xs ys → ∀ k, k < xs.length → ExR ρ (xs.getD k ed) (ys.getD k ed)
  | [], _, _, k, hk => by simp at hk
  | _ :: _, _, h, 0, _ => by cases h with | cons h1 h2 => exact h1
  | _ :: _, _, h, k + 1, hk => by
    cases h with
    | cons h1 h2 =>
      rw [List.getD_cons_succ, List.getD_cons_succ]
      exact h2.at k (by simpa using hk)
theorem LiR.at {α β : Type} {A : α → β → Prop} (a : α) (b : β) : ∀ {xs : List α} {ys : List β}, LiR A xs ys → ∀ k, k < xs.length → A (xs.getD k a) (ys.getD k b)
  | [], _, _, k, hk => by simp at hk
  | _ :: _, _, h, 0, _ => by cases h with | cons h1 h2 => exact h1
  | _ :: _, _, h, k + 1, hk => by
    cases h with
    | cons h1 h2 =>
      rw [List.getD_cons_succ, List.getD_cons_succ]
      exact h2.at a b k (by simpa using hk)

mutual
theorem ExR.refl {ρ : Nat → Nat → Prop} (h : ∀ i, ρ i i) : ∀ x : Ex, ExR ρ x x
  | .mk _ _ _ _ _ _ ps i => .mk (h i) (ExsR.refl h ps)
theorem ExsR.refl {ρ : Nat → Nat → Prop} (h : ∀ i, ρ i i) : ∀ xs : List Ex, ExsR ρ xs xs
  | [] => .nil
  | x :: xs => .cons (ExR.refl h x) (ExsR.refl h xs)
end
theorem LiR.refl {α : Type} {A : α → α → Prop} (h : ∀ x, A x x) : ∀ xs : List α, LiR A xs xs
  | [] => .nil
  | x :: xs => .cons (h x) (LiR.refl h xs)
theorem FnR.refl {ρ : Nat → Nat → Prop} (h : ∀ i, ρ i i) (g : Fn1) : FnR ρ g g := ⟨rfl, LiR.refl (fun _ => ⟨rfl, rfl, h _⟩) _, rfl, ExR.refl h _, h _⟩
end Go.Proofs.YtkonkplalgoekaaGreatDoor
