/-
  The plain parser hangs on the marks alone that it has come to: two rows of marks that agree so far are parsed alike, but for places.
-/
import Derived.Test.YtkonkplalgoekaaGreatDoorGq
namespace Go.Proofs.YtkonkplalgoekaaGreatDoor
set_option maxHeartbeats 1000000

mutual
/-- Two expressions are one but for places, which stand in a relation. -/
inductive ExR (ρ : Nat → Nat → Prop) : Ex → Ex → Prop
  | mk {op : Int} {name tail : List UInt8} {ty p q : Int} {xs ys : List Ex} {i j : Nat} : ρ i j → ExsR ρ xs ys → ExR ρ (.mk op name tail ty p q xs i) (.mk op name tail ty p q ys j)
inductive ExsR (ρ : Nat → Nat → Prop) : List Ex → List Ex → Prop
  | nil : ExsR ρ [] []
  | cons {x y : Ex} {xs ys : List Ex} : ExR ρ x y → ExsR ρ xs ys → ExsR ρ (x :: xs) (y :: ys)
end

theorem ExsR.snoc {ρ : Nat → Nat → Prop} : ∀ {xs ys : List Ex} {x y : Ex}, ExsR ρ xs ys → ExR ρ x y → ExsR ρ (xs ++ [x]) (ys ++ [y])
  | [], _, _, _, h, hx => by cases h; exact .cons hx .nil
  | _ :: _, _, _, _, h, hx => by cases h with | cons h1 h2 => exact .cons h1 (h2.snoc hx)

structure PmR (ρ : Nat → Nat → Prop) (a b : Pm) : Prop where
  name : a.name = b.name
  ty : a.ty = b.ty
  pos : ρ a.pos b.pos

/-- Lists whose members stand in a relation. -/
inductive LiR {α β : Type} (A : α → β → Prop) : List α → List β → Prop
  | nil : LiR A [] []
  | cons {x : α} {y : β} {xs : List α} {ys : List β} : A x y → LiR A xs ys → LiR A (x :: xs) (y :: ys)

theorem LiR.snoc {α β : Type} {A : α → β → Prop} : ∀ {xs : List α} {ys : List β} {x : α} {y : β}, LiR A xs ys → A x y → LiR A (xs ++ [x]) (ys ++ [y])
  | [], _, _, _, h, hx => by cases h; exact .cons hx .nil
  | _ :: _, _, _, _, h, hx => by cases h with | cons h1 h2 => exact .cons h1 (h2.snoc hx)
theorem LiR.length {α β : Type} {A : α → β → Prop} : ∀ {xs : List α} {ys : List β}, LiR A xs ys → xs.length = ys.length
  | [], _, h => by cases h; rfl
  | _ :: _, _, h => by cases h with | cons h1 h2 => simp [h2.length]

structure FnR (ρ : Nat → Nat → Prop) (a b : Fn1) : Prop where
  name : a.name = b.name
  pms : LiR (PmR ρ) a.pms b.pms
  ty : a.ty = b.ty
  body : ExR ρ a.body b.body
  pos : ρ a.pos b.pos

/-- Two marks are one but for places. -/
structure MR (ρ : Nat → Nat → Prop) (a b : Mk) : Prop where
  kind : b.kind = a.kind
  text : b.text = a.text
  p : b.p = a.p
  q : b.q = a.q
  at_ : ρ a.at_ b.at_

/-- What comes of one row of marks comes of the other, s marks later, where they agree so far. -/
def SR {α β : Type} (A : α → β → Prop) (K : Nat → Prop) (s : Nat) (r : Rs α) (r' : Rs β) : Prop :=
  match r with
  | .out => True
  | .ok a k => K k → ∃ b, r' = .ok b (k + s) ∧ A a b
  | .bad y k => K k → r' = .bad y (k + s)

section
variable {ρ : Nat → Nat → Prop} {K : Nat → Prop} {k0 s : Nat} (hd : ∀ i j, k0 ≤ i → i ≤ j → K j → K i)
include hd

theorem SR.bind {α β γ δ : Type} {A : α → β → Prop} {B : γ → δ → Prop} {r : Rs α} {r' : Rs β} {g : α → Nat → Rs γ} {g' : β → Nat → Rs δ} {lo : Nat} (hlo : k0 ≤ lo) (hr : r.Ge lo) (h : SR A K s r r')
    (hg : ∀ a b j, lo ≤ j → K j → A a b → SR B K s (g a j) (g' b (j + s))) (hge : ∀ a j, lo ≤ j → (g a j).Ge j) : SR B K s (r.bind g) (r'.bind g') := by
  cases r with
  | out => trivial
  | bad y j =>
    intro hK
    rw [show r' = _ from h hK]
    rfl
  | ok a j =>
    have h0 : lo ≤ j := hr
    have h1 := hge a j h0
    have h2 : K j → SR B K s (g a j) (r'.bind g') := by
      intro hK
      obtain ⟨b, e, hab⟩ := h hK
      rw [e]
      exact hg a b j h0 hK hab
    show SR B K s (g a j) (r'.bind g')
    cases hq : g a j with
    | out => trivial
    | ok c i =>
      rw [hq] at h1 h2
      intro hK
      exact h2 (hd j i (by omega) h1 hK) hK
    | bad y i =>
      rw [hq] at h1 h2
      intro hK
      exact h2 (hd j i (by omega) h1 hK) hK

theorem SR.of_K {α β : Type} {A : α → β → Prop} {r : Rs α} {r' : Rs β} {k : Nat} (hk : k0 ≤ k) (hr : r.Ge k) (h : K k → SR A K s r r') : SR A K s r r' := by
  cases r with
  | out => trivial
  | ok a j => intro hK; exact h (hd k j hk hr hK) hK
  | bad y j => intro hK; exact h (hd k j hk hr hK) hK
end

theorem SR.ok {α β : Type} {A : α → β → Prop} {K : Nat → Prop} {s j j' : Nat} {a : α} {b : β} (h : A a b) (e : j' = j + s) : SR A K s (.ok a j) (.ok b j') := fun _ => ⟨b, by rw [e], h⟩
theorem SR.bad {α β : Type} {A : α → β → Prop} {K : Nat → Prop} {s j j' : Nat} {y : Int} (e : j' = j + s) : SR (α := α) (β := β) A K s (.bad y j) (.bad y j') := fun _ => by rw [e]
theorem SR.ite {α β : Type} {A : α → β → Prop} {K : Nat → Prop} {s : Nat} {c c' : Prop} [Decidable c] [Decidable c'] {x y : Rs α} {x' y' : Rs β} (hc : c' ↔ c) (h1 : c → SR A K s x x') (h2 : ¬ c → SR A K s y y') : SR A K s (if c then x else y) (if c' then x' else y') := by
  by_cases h : c
  · rw [if_pos h, if_pos (hc.2 h)]; exact h1 h
  · rw [if_neg h, if_neg (fun h' => h (hc.1 h'))]; exact h2 h

section
variable {ρ : Nat → Nat → Prop} {K : Nat → Prop} {k0 s : Nat} (M M' : Nat → Mk) (L : Lm) (hd : ∀ i j, k0 ≤ i → i ≤ j → K j → K i) (hM : ∀ k, k0 ≤ k → K k → MR ρ (M k) (M' (k + s)))
include hM

theorem tk_iff {t : List UInt8} {k : Nat} (hk : k0 ≤ k) (h : K k) : (tk M' t (k + s) = true) ↔ (tk M t k = true) := by
  unfold tk
  rw [(hM k hk h).text]
theorem kd_iff {y : Int} {k : Nat} (hk : k0 ≤ k) (h : K k) : ((M' (k + s)).kind = y) ↔ ((M k).kind = y) := by rw [(hM k hk h).kind]

include hd
theorem sr_must (t : List UInt8) (k : Nat) (hk : k0 ≤ k) : SR (fun _ _ => True) K s (mustP M t k) (mustP M' t (k + s)) := by
  refine SR.of_K hd hk (ge_must M t k) fun hK => ?_
  unfold mustP
  exact SR.ite (tk_iff M M' hM hk hK) (fun _ => SR.ok trivial (by omega)) (fun _ => SR.bad rfl)
theorem sr_name (k : Nat) (hk : k0 ≤ k) : SR (MR ρ) K s (nameP M k) (nameP M' (k + s)) := by
  refine SR.of_K hd hk (ge_name M k) fun hK => ?_
  unfold nameP
  exact SR.ite (kd_iff M M' hM hk hK) (fun _ => SR.ok (hM k hk hK) (by omega)) (fun _ => SR.bad rfl)
theorem sr_nameOf (n : Nat) (m : Int) (k : Nat) (hk : k0 ≤ k) : SR (MR ρ) K s (nameOfP M n m k) (nameOfP M' n m (k + s)) := by
  refine SR.of_K hd hk (ge_nameOf M n m k) fun hK => ?_
  unfold nameOfP
  exact SR.ite (and_congr_right fun _ => kd_iff M M' hM hk hK) (fun _ => SR.bad rfl) (fun _ => sr_name M M' hd hM k hk)
theorem sr_type (k : Nat) (hk : k0 ≤ k) : SR (fun a b => b = a) K s (typeP M k) (typeP M' (k + s)) := by
  refine SR.of_K hd hk (ge_type M k) fun hK => ?_
  unfold typeP
  refine SR.ite (tk_iff M M' hM hk hK) (fun _ => SR.ok rfl (by omega)) (fun _ => ?_)
  refine SR.ite (tk_iff M M' hM hk hK) (fun _ => SR.ok rfl (by omega)) (fun _ => ?_)
  exact SR.ite (tk_iff M M' hM hk hK) (fun _ => SR.ok rfl (by omega)) (fun _ => SR.bad rfl)

omit hd hM in
theorem ExR.two {op : Int} {a a' b b' : Ex} {m m' : Mk} (h1 : ExR ρ a a') (h2 : ExR ρ b b') (h : MR ρ m m') : ExR ρ (two op a b m) (two op a' b' m') := .mk h.at_ (.cons h1 (.cons h2 .nil))

variable (ρ K k0 s) in
structure AllSR (f : Nat) : Prop where
  exprP : ∀ (d : Nat) (k : Nat), k0 ≤ k → SR (ExR ρ) K s (Proofs.YtkonkplalgoekaaGreatDoor.exprP M L f d k) (Proofs.YtkonkplalgoekaaGreatDoor.exprP M' L f d (k + s))
  bindP : ∀ (op : Int) (d : Nat) (k : Nat), k0 ≤ k → K k → SR (ExR ρ) K s (Proofs.YtkonkplalgoekaaGreatDoor.bindP M L f op d k) (Proofs.YtkonkplalgoekaaGreatDoor.bindP M' L f op d (k + s))
  ifP : ∀ (d : Nat) (k : Nat), k0 ≤ k → K k → SR (ExR ρ) K s (Proofs.YtkonkplalgoekaaGreatDoor.ifP M L f d k) (Proofs.YtkonkplalgoekaaGreatDoor.ifP M' L f d (k + s))
  caseP : ∀ (d : Nat) (k : Nat), k0 ≤ k → K k → SR (ExR ρ) K s (Proofs.YtkonkplalgoekaaGreatDoor.caseP M L f d k) (Proofs.YtkonkplalgoekaaGreatDoor.caseP M' L f d (k + s))
  consP : ∀ (d : Nat) (k : Nat), k0 ≤ k → SR (ExR ρ) K s (Proofs.YtkonkplalgoekaaGreatDoor.consP M L f d k) (Proofs.YtkonkplalgoekaaGreatDoor.consP M' L f d (k + s))
  compP : ∀ (d : Nat) (k : Nat), k0 ≤ k → SR (ExR ρ) K s (Proofs.YtkonkplalgoekaaGreatDoor.compP M L f d k) (Proofs.YtkonkplalgoekaaGreatDoor.compP M' L f d (k + s))
  sumP : ∀ (d : Nat) (k : Nat), k0 ≤ k → SR (ExR ρ) K s (Proofs.YtkonkplalgoekaaGreatDoor.sumP M L f d k) (Proofs.YtkonkplalgoekaaGreatDoor.sumP M' L f d (k + s))
  sumL : ∀ (d : Nat) (a a' : Ex) (k : Nat), k0 ≤ k → ExR ρ a a' → SR (ExR ρ) K s (Proofs.YtkonkplalgoekaaGreatDoor.sumL M L f d a k) (Proofs.YtkonkplalgoekaaGreatDoor.sumL M' L f d a' (k + s))
  termP : ∀ (d : Nat) (k : Nat), k0 ≤ k → SR (ExR ρ) K s (Proofs.YtkonkplalgoekaaGreatDoor.termP M L f d k) (Proofs.YtkonkplalgoekaaGreatDoor.termP M' L f d (k + s))
  termL : ∀ (d : Nat) (a a' : Ex) (k : Nat), k0 ≤ k → ExR ρ a a' → SR (ExR ρ) K s (Proofs.YtkonkplalgoekaaGreatDoor.termL M L f d a k) (Proofs.YtkonkplalgoekaaGreatDoor.termL M' L f d a' (k + s))
  unitP : ∀ (d : Nat) (k : Nat), k0 ≤ k → SR (ExR ρ) K s (Proofs.YtkonkplalgoekaaGreatDoor.unitP M L f d k) (Proofs.YtkonkplalgoekaaGreatDoor.unitP M' L f d (k + s))
  namedP : ∀ (d : Nat) (k : Nat), k0 ≤ k → K k → SR (ExR ρ) K s (Proofs.YtkonkplalgoekaaGreatDoor.namedP M L f d k) (Proofs.YtkonkplalgoekaaGreatDoor.namedP M' L f d (k + s))
  wordedP : ∀ (d : Nat) (k : Nat), k0 ≤ k → K k → SR (ExR ρ) K s (Proofs.YtkonkplalgoekaaGreatDoor.wordedP M L f d k) (Proofs.YtkonkplalgoekaaGreatDoor.wordedP M' L f d (k + s))
  brackP : ∀ (d : Nat) (k : Nat), k0 ≤ k → SR (ExR ρ) K s (Proofs.YtkonkplalgoekaaGreatDoor.brackP M L f d k) (Proofs.YtkonkplalgoekaaGreatDoor.brackP M' L f d (k + s))
  argsP : ∀ (d : Nat) (k : Nat), k0 ≤ k → SR (ExsR ρ) K s (Proofs.YtkonkplalgoekaaGreatDoor.argsP M L f d k) (Proofs.YtkonkplalgoekaaGreatDoor.argsP M' L f d (k + s))
  argsL : ∀ (d : Nat) (a a' : List Ex) (k : Nat), k0 ≤ k → ExsR ρ a a' → SR (ExsR ρ) K s (Proofs.YtkonkplalgoekaaGreatDoor.argsL M L f d a k) (Proofs.YtkonkplalgoekaaGreatDoor.argsL M' L f d a' (k + s))

theorem allSR : ∀ f, AllSR ρ K k0 s M M' L f := by
  intro f
  induction f with
  | zero =>
    constructor
    all_goals
      intros
      first
      | (rw [Proofs.YtkonkplalgoekaaGreatDoor.exprP]; exact trivial)
      | (rw [Proofs.YtkonkplalgoekaaGreatDoor.bindP]; exact trivial)
      | (rw [Proofs.YtkonkplalgoekaaGreatDoor.ifP]; exact trivial)
      | (rw [Proofs.YtkonkplalgoekaaGreatDoor.caseP]; exact trivial)
      | (rw [Proofs.YtkonkplalgoekaaGreatDoor.consP]; exact trivial)
      | (rw [Proofs.YtkonkplalgoekaaGreatDoor.compP]; exact trivial)
      | (rw [Proofs.YtkonkplalgoekaaGreatDoor.sumP]; exact trivial)
      | (rw [Proofs.YtkonkplalgoekaaGreatDoor.sumL]; exact trivial)
      | (rw [Proofs.YtkonkplalgoekaaGreatDoor.termP]; exact trivial)
      | (rw [Proofs.YtkonkplalgoekaaGreatDoor.termL]; exact trivial)
      | (rw [Proofs.YtkonkplalgoekaaGreatDoor.unitP]; exact trivial)
      | (rw [Proofs.YtkonkplalgoekaaGreatDoor.namedP]; exact trivial)
      | (rw [Proofs.YtkonkplalgoekaaGreatDoor.wordedP]; exact trivial)
      | (rw [Proofs.YtkonkplalgoekaaGreatDoor.brackP]; exact trivial)
      | (rw [Proofs.YtkonkplalgoekaaGreatDoor.argsP]; exact trivial)
      | (rw [Proofs.YtkonkplalgoekaaGreatDoor.argsL]; exact trivial)
  | succ f ih =>
    constructor
    · intro d k hk
      refine SR.of_K hd hk ((allGe M L _).exprP _ _) fun hK => ?_
      rw [Proofs.YtkonkplalgoekaaGreatDoor.exprP, Proofs.YtkonkplalgoekaaGreatDoor.exprP]
      refine SR.ite (tk_iff M M' hM hk hK) (fun _ => ih.bindP _ _ _ hk hK) fun _ => ?_
      refine SR.ite (tk_iff M M' hM hk hK) (fun _ => ih.bindP _ _ _ hk hK) fun _ => ?_
      refine SR.ite (tk_iff M M' hM hk hK) (fun _ => ih.ifP _ _ hk hK) fun _ => ?_
      exact SR.ite (tk_iff M M' hM hk hK) (fun _ => ih.caseP _ _ hk hK) fun _ => ih.consP _ _ hk
    · intro op d k hk hK
      rw [Proofs.YtkonkplalgoekaaGreatDoor.bindP, Proofs.YtkonkplalgoekaaGreatDoor.bindP]
      refine SR.ite Iff.rfl (fun _ => SR.bad rfl) fun _ => ?_
      simp only [Nat.add_right_comm _ s 1]
      refine SR.bind hd (by omega) (ge_name M _) (sr_name M M' hd hM _ (by omega)) (fun x x' k1 h1 g1 r1 => ?_) (by
        intro _ _ _
        repeat' (first
          | exact ge_ok _ (by omega)
          | exact ge_bad _ (by omega)
          | exact (ge_must M _ _).mono (by omega)
          | exact (ge_name M _).mono (by omega)
          | exact (ge_type M _).mono (by omega)
          | exact ((allGe M L _).exprP _ _).mono (by omega)
          | exact ((allGe M L _).bindP _ _ _).mono (by omega)
          | exact ((allGe M L _).ifP _ _).mono (by omega)
          | exact ((allGe M L _).caseP _ _).mono (by omega)
          | exact ((allGe M L _).consP _ _).mono (by omega)
          | exact ((allGe M L _).compP _ _).mono (by omega)
          | exact ((allGe M L _).sumP _ _).mono (by omega)
          | exact ((allGe M L _).sumL _ _ _).mono (by omega)
          | exact ((allGe M L _).termP _ _).mono (by omega)
          | exact ((allGe M L _).termL _ _ _).mono (by omega)
          | exact ((allGe M L _).unitP _ _).mono (by omega)
          | exact ((allGe M L _).namedP _ _).mono (by omega)
          | exact ((allGe M L _).wordedP _ _).mono (by omega)
          | exact ((allGe M L _).brackP _ _).mono (by omega)
          | exact ((allGe M L _).argsP _ _).mono (by omega)
          | exact ((allGe M L _).argsL _ _ _).mono (by omega)
          | refine Rs.Ge.bind ?_ fun _ _ _ => ?_
          | split))
      refine SR.bind hd (by omega) (ge_type M _) (sr_type M M' hd hM _ (by omega)) (fun t t' k2 h2 g2 r2 => ?_) (by
        intro _ _ _
        repeat' (first
          | exact ge_ok _ (by omega)
          | exact ge_bad _ (by omega)
          | exact (ge_must M _ _).mono (by omega)
          | exact (ge_name M _).mono (by omega)
          | exact (ge_type M _).mono (by omega)
          | exact ((allGe M L _).exprP _ _).mono (by omega)
          | exact ((allGe M L _).bindP _ _ _).mono (by omega)
          | exact ((allGe M L _).ifP _ _).mono (by omega)
          | exact ((allGe M L _).caseP _ _).mono (by omega)
          | exact ((allGe M L _).consP _ _).mono (by omega)
          | exact ((allGe M L _).compP _ _).mono (by omega)
          | exact ((allGe M L _).sumP _ _).mono (by omega)
          | exact ((allGe M L _).sumL _ _ _).mono (by omega)
          | exact ((allGe M L _).termP _ _).mono (by omega)
          | exact ((allGe M L _).termL _ _ _).mono (by omega)
          | exact ((allGe M L _).unitP _ _).mono (by omega)
          | exact ((allGe M L _).namedP _ _).mono (by omega)
          | exact ((allGe M L _).wordedP _ _).mono (by omega)
          | exact ((allGe M L _).brackP _ _).mono (by omega)
          | exact ((allGe M L _).argsP _ _).mono (by omega)
          | exact ((allGe M L _).argsL _ _ _).mono (by omega)
          | refine Rs.Ge.bind ?_ fun _ _ _ => ?_
          | split))
      refine SR.bind hd (by omega) (ge_must M _ _) (sr_must M M' hd hM _ _ (by omega)) (fun _ _ k3 h3 g3 _ => ?_) (by
        intro _ _ _
        repeat' (first
          | exact ge_ok _ (by omega)
          | exact ge_bad _ (by omega)
          | exact (ge_must M _ _).mono (by omega)
          | exact (ge_name M _).mono (by omega)
          | exact (ge_type M _).mono (by omega)
          | exact ((allGe M L _).exprP _ _).mono (by omega)
          | exact ((allGe M L _).bindP _ _ _).mono (by omega)
          | exact ((allGe M L _).ifP _ _).mono (by omega)
          | exact ((allGe M L _).caseP _ _).mono (by omega)
          | exact ((allGe M L _).consP _ _).mono (by omega)
          | exact ((allGe M L _).compP _ _).mono (by omega)
          | exact ((allGe M L _).sumP _ _).mono (by omega)
          | exact ((allGe M L _).sumL _ _ _).mono (by omega)
          | exact ((allGe M L _).termP _ _).mono (by omega)
          | exact ((allGe M L _).termL _ _ _).mono (by omega)
          | exact ((allGe M L _).unitP _ _).mono (by omega)
          | exact ((allGe M L _).namedP _ _).mono (by omega)
          | exact ((allGe M L _).wordedP _ _).mono (by omega)
          | exact ((allGe M L _).brackP _ _).mono (by omega)
          | exact ((allGe M L _).argsP _ _).mono (by omega)
          | exact ((allGe M L _).argsL _ _ _).mono (by omega)
          | refine Rs.Ge.bind ?_ fun _ _ _ => ?_
          | split))
      refine SR.bind hd (by omega) ((allGe M L _).exprP _ _) (ih.exprP _ _ (by omega)) (fun a a' k4 h4 g4 r4 => ?_) (by
        intro _ _ _
        repeat' (first
          | exact ge_ok _ (by omega)
          | exact ge_bad _ (by omega)
          | exact (ge_must M _ _).mono (by omega)
          | exact (ge_name M _).mono (by omega)
          | exact (ge_type M _).mono (by omega)
          | exact ((allGe M L _).exprP _ _).mono (by omega)
          | exact ((allGe M L _).bindP _ _ _).mono (by omega)
          | exact ((allGe M L _).ifP _ _).mono (by omega)
          | exact ((allGe M L _).caseP _ _).mono (by omega)
          | exact ((allGe M L _).consP _ _).mono (by omega)
          | exact ((allGe M L _).compP _ _).mono (by omega)
          | exact ((allGe M L _).sumP _ _).mono (by omega)
          | exact ((allGe M L _).sumL _ _ _).mono (by omega)
          | exact ((allGe M L _).termP _ _).mono (by omega)
          | exact ((allGe M L _).termL _ _ _).mono (by omega)
          | exact ((allGe M L _).unitP _ _).mono (by omega)
          | exact ((allGe M L _).namedP _ _).mono (by omega)
          | exact ((allGe M L _).wordedP _ _).mono (by omega)
          | exact ((allGe M L _).brackP _ _).mono (by omega)
          | exact ((allGe M L _).argsP _ _).mono (by omega)
          | exact ((allGe M L _).argsL _ _ _).mono (by omega)
          | refine Rs.Ge.bind ?_ fun _ _ _ => ?_
          | split))
      refine SR.bind hd (by omega) (ge_must M _ _) (sr_must M M' hd hM _ _ (by omega)) (fun _ _ k5 h5 g5 _ => ?_) (by
        intro _ _ _
        repeat' (first
          | exact ge_ok _ (by omega)
          | exact ge_bad _ (by omega)
          | exact (ge_must M _ _).mono (by omega)
          | exact (ge_name M _).mono (by omega)
          | exact (ge_type M _).mono (by omega)
          | exact ((allGe M L _).exprP _ _).mono (by omega)
          | exact ((allGe M L _).bindP _ _ _).mono (by omega)
          | exact ((allGe M L _).ifP _ _).mono (by omega)
          | exact ((allGe M L _).caseP _ _).mono (by omega)
          | exact ((allGe M L _).consP _ _).mono (by omega)
          | exact ((allGe M L _).compP _ _).mono (by omega)
          | exact ((allGe M L _).sumP _ _).mono (by omega)
          | exact ((allGe M L _).sumL _ _ _).mono (by omega)
          | exact ((allGe M L _).termP _ _).mono (by omega)
          | exact ((allGe M L _).termL _ _ _).mono (by omega)
          | exact ((allGe M L _).unitP _ _).mono (by omega)
          | exact ((allGe M L _).namedP _ _).mono (by omega)
          | exact ((allGe M L _).wordedP _ _).mono (by omega)
          | exact ((allGe M L _).brackP _ _).mono (by omega)
          | exact ((allGe M L _).argsP _ _).mono (by omega)
          | exact ((allGe M L _).argsL _ _ _).mono (by omega)
          | refine Rs.Ge.bind ?_ fun _ _ _ => ?_
          | split))
      refine SR.bind hd (by omega) ((allGe M L _).exprP _ _) (ih.exprP _ _ (by omega)) (fun b b' k6 h6 g6 r6 => ?_) (by
        intro _ _ _
        repeat' (first
          | exact ge_ok _ (by omega)
          | exact ge_bad _ (by omega)
          | exact (ge_must M _ _).mono (by omega)
          | exact (ge_name M _).mono (by omega)
          | exact (ge_type M _).mono (by omega)
          | exact ((allGe M L _).exprP _ _).mono (by omega)
          | exact ((allGe M L _).bindP _ _ _).mono (by omega)
          | exact ((allGe M L _).ifP _ _).mono (by omega)
          | exact ((allGe M L _).caseP _ _).mono (by omega)
          | exact ((allGe M L _).consP _ _).mono (by omega)
          | exact ((allGe M L _).compP _ _).mono (by omega)
          | exact ((allGe M L _).sumP _ _).mono (by omega)
          | exact ((allGe M L _).sumL _ _ _).mono (by omega)
          | exact ((allGe M L _).termP _ _).mono (by omega)
          | exact ((allGe M L _).termL _ _ _).mono (by omega)
          | exact ((allGe M L _).unitP _ _).mono (by omega)
          | exact ((allGe M L _).namedP _ _).mono (by omega)
          | exact ((allGe M L _).wordedP _ _).mono (by omega)
          | exact ((allGe M L _).brackP _ _).mono (by omega)
          | exact ((allGe M L _).argsP _ _).mono (by omega)
          | exact ((allGe M L _).argsL _ _ _).mono (by omega)
          | refine Rs.Ge.bind ?_ fun _ _ _ => ?_
          | split))
      subst r2
      refine SR.ok ?_ rfl
      rw [r1.text]
      exact .mk (hM k hk hK).at_ (.cons r4 (.cons r6 .nil))
    · intro d k hk hK
      rw [Proofs.YtkonkplalgoekaaGreatDoor.ifP, Proofs.YtkonkplalgoekaaGreatDoor.ifP]
      simp only [Nat.add_right_comm _ s 1]
      refine SR.bind hd (by omega) ((allGe M L _).exprP _ _) (ih.exprP _ _ (by omega)) (fun a a' k1 h1 g1 r1 => ?_) (by
        intro _ _ _
        repeat' (first
          | exact ge_ok _ (by omega)
          | exact ge_bad _ (by omega)
          | exact (ge_must M _ _).mono (by omega)
          | exact (ge_name M _).mono (by omega)
          | exact (ge_type M _).mono (by omega)
          | exact ((allGe M L _).exprP _ _).mono (by omega)
          | exact ((allGe M L _).bindP _ _ _).mono (by omega)
          | exact ((allGe M L _).ifP _ _).mono (by omega)
          | exact ((allGe M L _).caseP _ _).mono (by omega)
          | exact ((allGe M L _).consP _ _).mono (by omega)
          | exact ((allGe M L _).compP _ _).mono (by omega)
          | exact ((allGe M L _).sumP _ _).mono (by omega)
          | exact ((allGe M L _).sumL _ _ _).mono (by omega)
          | exact ((allGe M L _).termP _ _).mono (by omega)
          | exact ((allGe M L _).termL _ _ _).mono (by omega)
          | exact ((allGe M L _).unitP _ _).mono (by omega)
          | exact ((allGe M L _).namedP _ _).mono (by omega)
          | exact ((allGe M L _).wordedP _ _).mono (by omega)
          | exact ((allGe M L _).brackP _ _).mono (by omega)
          | exact ((allGe M L _).argsP _ _).mono (by omega)
          | exact ((allGe M L _).argsL _ _ _).mono (by omega)
          | refine Rs.Ge.bind ?_ fun _ _ _ => ?_
          | split))
      refine SR.bind hd (by omega) (ge_must M _ _) (sr_must M M' hd hM _ _ (by omega)) (fun _ _ k2 h2 g2 _ => ?_) (by
        intro _ _ _
        repeat' (first
          | exact ge_ok _ (by omega)
          | exact ge_bad _ (by omega)
          | exact (ge_must M _ _).mono (by omega)
          | exact (ge_name M _).mono (by omega)
          | exact (ge_type M _).mono (by omega)
          | exact ((allGe M L _).exprP _ _).mono (by omega)
          | exact ((allGe M L _).bindP _ _ _).mono (by omega)
          | exact ((allGe M L _).ifP _ _).mono (by omega)
          | exact ((allGe M L _).caseP _ _).mono (by omega)
          | exact ((allGe M L _).consP _ _).mono (by omega)
          | exact ((allGe M L _).compP _ _).mono (by omega)
          | exact ((allGe M L _).sumP _ _).mono (by omega)
          | exact ((allGe M L _).sumL _ _ _).mono (by omega)
          | exact ((allGe M L _).termP _ _).mono (by omega)
          | exact ((allGe M L _).termL _ _ _).mono (by omega)
          | exact ((allGe M L _).unitP _ _).mono (by omega)
          | exact ((allGe M L _).namedP _ _).mono (by omega)
          | exact ((allGe M L _).wordedP _ _).mono (by omega)
          | exact ((allGe M L _).brackP _ _).mono (by omega)
          | exact ((allGe M L _).argsP _ _).mono (by omega)
          | exact ((allGe M L _).argsL _ _ _).mono (by omega)
          | refine Rs.Ge.bind ?_ fun _ _ _ => ?_
          | split))
      refine SR.bind hd (by omega) ((allGe M L _).exprP _ _) (ih.exprP _ _ (by omega)) (fun b b' k3 h3 g3 r3 => ?_) (by
        intro _ _ _
        repeat' (first
          | exact ge_ok _ (by omega)
          | exact ge_bad _ (by omega)
          | exact (ge_must M _ _).mono (by omega)
          | exact (ge_name M _).mono (by omega)
          | exact (ge_type M _).mono (by omega)
          | exact ((allGe M L _).exprP _ _).mono (by omega)
          | exact ((allGe M L _).bindP _ _ _).mono (by omega)
          | exact ((allGe M L _).ifP _ _).mono (by omega)
          | exact ((allGe M L _).caseP _ _).mono (by omega)
          | exact ((allGe M L _).consP _ _).mono (by omega)
          | exact ((allGe M L _).compP _ _).mono (by omega)
          | exact ((allGe M L _).sumP _ _).mono (by omega)
          | exact ((allGe M L _).sumL _ _ _).mono (by omega)
          | exact ((allGe M L _).termP _ _).mono (by omega)
          | exact ((allGe M L _).termL _ _ _).mono (by omega)
          | exact ((allGe M L _).unitP _ _).mono (by omega)
          | exact ((allGe M L _).namedP _ _).mono (by omega)
          | exact ((allGe M L _).wordedP _ _).mono (by omega)
          | exact ((allGe M L _).brackP _ _).mono (by omega)
          | exact ((allGe M L _).argsP _ _).mono (by omega)
          | exact ((allGe M L _).argsL _ _ _).mono (by omega)
          | refine Rs.Ge.bind ?_ fun _ _ _ => ?_
          | split))
      refine SR.bind hd (by omega) (ge_must M _ _) (sr_must M M' hd hM _ _ (by omega)) (fun _ _ k4 h4 g4 _ => ?_) (by
        intro _ _ _
        repeat' (first
          | exact ge_ok _ (by omega)
          | exact ge_bad _ (by omega)
          | exact (ge_must M _ _).mono (by omega)
          | exact (ge_name M _).mono (by omega)
          | exact (ge_type M _).mono (by omega)
          | exact ((allGe M L _).exprP _ _).mono (by omega)
          | exact ((allGe M L _).bindP _ _ _).mono (by omega)
          | exact ((allGe M L _).ifP _ _).mono (by omega)
          | exact ((allGe M L _).caseP _ _).mono (by omega)
          | exact ((allGe M L _).consP _ _).mono (by omega)
          | exact ((allGe M L _).compP _ _).mono (by omega)
          | exact ((allGe M L _).sumP _ _).mono (by omega)
          | exact ((allGe M L _).sumL _ _ _).mono (by omega)
          | exact ((allGe M L _).termP _ _).mono (by omega)
          | exact ((allGe M L _).termL _ _ _).mono (by omega)
          | exact ((allGe M L _).unitP _ _).mono (by omega)
          | exact ((allGe M L _).namedP _ _).mono (by omega)
          | exact ((allGe M L _).wordedP _ _).mono (by omega)
          | exact ((allGe M L _).brackP _ _).mono (by omega)
          | exact ((allGe M L _).argsP _ _).mono (by omega)
          | exact ((allGe M L _).argsL _ _ _).mono (by omega)
          | refine Rs.Ge.bind ?_ fun _ _ _ => ?_
          | split))
      refine SR.bind hd (by omega) ((allGe M L _).exprP _ _) (ih.exprP _ _ (by omega)) (fun c c' k5 h5 g5 r5 => ?_) (by
        intro _ _ _
        repeat' (first
          | exact ge_ok _ (by omega)
          | exact ge_bad _ (by omega)
          | exact (ge_must M _ _).mono (by omega)
          | exact (ge_name M _).mono (by omega)
          | exact (ge_type M _).mono (by omega)
          | exact ((allGe M L _).exprP _ _).mono (by omega)
          | exact ((allGe M L _).bindP _ _ _).mono (by omega)
          | exact ((allGe M L _).ifP _ _).mono (by omega)
          | exact ((allGe M L _).caseP _ _).mono (by omega)
          | exact ((allGe M L _).consP _ _).mono (by omega)
          | exact ((allGe M L _).compP _ _).mono (by omega)
          | exact ((allGe M L _).sumP _ _).mono (by omega)
          | exact ((allGe M L _).sumL _ _ _).mono (by omega)
          | exact ((allGe M L _).termP _ _).mono (by omega)
          | exact ((allGe M L _).termL _ _ _).mono (by omega)
          | exact ((allGe M L _).unitP _ _).mono (by omega)
          | exact ((allGe M L _).namedP _ _).mono (by omega)
          | exact ((allGe M L _).wordedP _ _).mono (by omega)
          | exact ((allGe M L _).brackP _ _).mono (by omega)
          | exact ((allGe M L _).argsP _ _).mono (by omega)
          | exact ((allGe M L _).argsL _ _ _).mono (by omega)
          | refine Rs.Ge.bind ?_ fun _ _ _ => ?_
          | split))
      exact SR.ok (.mk (hM k hk hK).at_ (.cons r1 (.cons r3 (.cons r5 .nil)))) rfl
    · intro d k hk hK
      rw [Proofs.YtkonkplalgoekaaGreatDoor.caseP, Proofs.YtkonkplalgoekaaGreatDoor.caseP]
      refine SR.ite Iff.rfl (fun _ => SR.bad rfl) fun _ => ?_
      simp only [Nat.add_right_comm _ s 1]
      refine SR.bind hd (by omega) ((allGe M L _).exprP _ _) (ih.exprP _ _ (by omega)) (fun a a' k1 h1 g1 r1 => ?_) (by
        intro _ _ _
        repeat' (first
          | exact ge_ok _ (by omega)
          | exact ge_bad _ (by omega)
          | exact (ge_must M _ _).mono (by omega)
          | exact (ge_name M _).mono (by omega)
          | exact (ge_type M _).mono (by omega)
          | exact ((allGe M L _).exprP _ _).mono (by omega)
          | exact ((allGe M L _).bindP _ _ _).mono (by omega)
          | exact ((allGe M L _).ifP _ _).mono (by omega)
          | exact ((allGe M L _).caseP _ _).mono (by omega)
          | exact ((allGe M L _).consP _ _).mono (by omega)
          | exact ((allGe M L _).compP _ _).mono (by omega)
          | exact ((allGe M L _).sumP _ _).mono (by omega)
          | exact ((allGe M L _).sumL _ _ _).mono (by omega)
          | exact ((allGe M L _).termP _ _).mono (by omega)
          | exact ((allGe M L _).termL _ _ _).mono (by omega)
          | exact ((allGe M L _).unitP _ _).mono (by omega)
          | exact ((allGe M L _).namedP _ _).mono (by omega)
          | exact ((allGe M L _).wordedP _ _).mono (by omega)
          | exact ((allGe M L _).brackP _ _).mono (by omega)
          | exact ((allGe M L _).argsP _ _).mono (by omega)
          | exact ((allGe M L _).argsL _ _ _).mono (by omega)
          | refine Rs.Ge.bind ?_ fun _ _ _ => ?_
          | split))
      refine SR.bind hd (by omega) (ge_must M _ _) (sr_must M M' hd hM _ _ (by omega)) (fun _ _ k2 h2 g2 _ => ?_) (by
        intro _ _ _
        repeat' (first
          | exact ge_ok _ (by omega)
          | exact ge_bad _ (by omega)
          | exact (ge_must M _ _).mono (by omega)
          | exact (ge_name M _).mono (by omega)
          | exact (ge_type M _).mono (by omega)
          | exact ((allGe M L _).exprP _ _).mono (by omega)
          | exact ((allGe M L _).bindP _ _ _).mono (by omega)
          | exact ((allGe M L _).ifP _ _).mono (by omega)
          | exact ((allGe M L _).caseP _ _).mono (by omega)
          | exact ((allGe M L _).consP _ _).mono (by omega)
          | exact ((allGe M L _).compP _ _).mono (by omega)
          | exact ((allGe M L _).sumP _ _).mono (by omega)
          | exact ((allGe M L _).sumL _ _ _).mono (by omega)
          | exact ((allGe M L _).termP _ _).mono (by omega)
          | exact ((allGe M L _).termL _ _ _).mono (by omega)
          | exact ((allGe M L _).unitP _ _).mono (by omega)
          | exact ((allGe M L _).namedP _ _).mono (by omega)
          | exact ((allGe M L _).wordedP _ _).mono (by omega)
          | exact ((allGe M L _).brackP _ _).mono (by omega)
          | exact ((allGe M L _).argsP _ _).mono (by omega)
          | exact ((allGe M L _).argsL _ _ _).mono (by omega)
          | refine Rs.Ge.bind ?_ fun _ _ _ => ?_
          | split))
      refine SR.bind hd (by omega) (ge_must M _ _) (sr_must M M' hd hM _ _ (by omega)) (fun _ _ k3 h3 g3 _ => ?_) (by
        intro _ _ _
        repeat' (first
          | exact ge_ok _ (by omega)
          | exact ge_bad _ (by omega)
          | exact (ge_must M _ _).mono (by omega)
          | exact (ge_name M _).mono (by omega)
          | exact (ge_type M _).mono (by omega)
          | exact ((allGe M L _).exprP _ _).mono (by omega)
          | exact ((allGe M L _).bindP _ _ _).mono (by omega)
          | exact ((allGe M L _).ifP _ _).mono (by omega)
          | exact ((allGe M L _).caseP _ _).mono (by omega)
          | exact ((allGe M L _).consP _ _).mono (by omega)
          | exact ((allGe M L _).compP _ _).mono (by omega)
          | exact ((allGe M L _).sumP _ _).mono (by omega)
          | exact ((allGe M L _).sumL _ _ _).mono (by omega)
          | exact ((allGe M L _).termP _ _).mono (by omega)
          | exact ((allGe M L _).termL _ _ _).mono (by omega)
          | exact ((allGe M L _).unitP _ _).mono (by omega)
          | exact ((allGe M L _).namedP _ _).mono (by omega)
          | exact ((allGe M L _).wordedP _ _).mono (by omega)
          | exact ((allGe M L _).brackP _ _).mono (by omega)
          | exact ((allGe M L _).argsP _ _).mono (by omega)
          | exact ((allGe M L _).argsL _ _ _).mono (by omega)
          | refine Rs.Ge.bind ?_ fun _ _ _ => ?_
          | split))
      refine SR.bind hd (by omega) (ge_must M _ _) (sr_must M M' hd hM _ _ (by omega)) (fun _ _ k4 h4 g4 _ => ?_) (by
        intro _ _ _
        repeat' (first
          | exact ge_ok _ (by omega)
          | exact ge_bad _ (by omega)
          | exact (ge_must M _ _).mono (by omega)
          | exact (ge_name M _).mono (by omega)
          | exact (ge_type M _).mono (by omega)
          | exact ((allGe M L _).exprP _ _).mono (by omega)
          | exact ((allGe M L _).bindP _ _ _).mono (by omega)
          | exact ((allGe M L _).ifP _ _).mono (by omega)
          | exact ((allGe M L _).caseP _ _).mono (by omega)
          | exact ((allGe M L _).consP _ _).mono (by omega)
          | exact ((allGe M L _).compP _ _).mono (by omega)
          | exact ((allGe M L _).sumP _ _).mono (by omega)
          | exact ((allGe M L _).sumL _ _ _).mono (by omega)
          | exact ((allGe M L _).termP _ _).mono (by omega)
          | exact ((allGe M L _).termL _ _ _).mono (by omega)
          | exact ((allGe M L _).unitP _ _).mono (by omega)
          | exact ((allGe M L _).namedP _ _).mono (by omega)
          | exact ((allGe M L _).wordedP _ _).mono (by omega)
          | exact ((allGe M L _).brackP _ _).mono (by omega)
          | exact ((allGe M L _).argsP _ _).mono (by omega)
          | exact ((allGe M L _).argsL _ _ _).mono (by omega)
          | refine Rs.Ge.bind ?_ fun _ _ _ => ?_
          | split))
      refine SR.bind hd (by omega) ((allGe M L _).exprP _ _) (ih.exprP _ _ (by omega)) (fun b b' k5 h5 g5 r5 => ?_) (by
        intro _ _ _
        repeat' (first
          | exact ge_ok _ (by omega)
          | exact ge_bad _ (by omega)
          | exact (ge_must M _ _).mono (by omega)
          | exact (ge_name M _).mono (by omega)
          | exact (ge_type M _).mono (by omega)
          | exact ((allGe M L _).exprP _ _).mono (by omega)
          | exact ((allGe M L _).bindP _ _ _).mono (by omega)
          | exact ((allGe M L _).ifP _ _).mono (by omega)
          | exact ((allGe M L _).caseP _ _).mono (by omega)
          | exact ((allGe M L _).consP _ _).mono (by omega)
          | exact ((allGe M L _).compP _ _).mono (by omega)
          | exact ((allGe M L _).sumP _ _).mono (by omega)
          | exact ((allGe M L _).sumL _ _ _).mono (by omega)
          | exact ((allGe M L _).termP _ _).mono (by omega)
          | exact ((allGe M L _).termL _ _ _).mono (by omega)
          | exact ((allGe M L _).unitP _ _).mono (by omega)
          | exact ((allGe M L _).namedP _ _).mono (by omega)
          | exact ((allGe M L _).wordedP _ _).mono (by omega)
          | exact ((allGe M L _).brackP _ _).mono (by omega)
          | exact ((allGe M L _).argsP _ _).mono (by omega)
          | exact ((allGe M L _).argsL _ _ _).mono (by omega)
          | refine Rs.Ge.bind ?_ fun _ _ _ => ?_
          | split))
      refine SR.bind hd (by omega) (ge_must M _ _) (sr_must M M' hd hM _ _ (by omega)) (fun _ _ k6 h6 g6 _ => ?_) (by
        intro _ _ _
        repeat' (first
          | exact ge_ok _ (by omega)
          | exact ge_bad _ (by omega)
          | exact (ge_must M _ _).mono (by omega)
          | exact (ge_name M _).mono (by omega)
          | exact (ge_type M _).mono (by omega)
          | exact ((allGe M L _).exprP _ _).mono (by omega)
          | exact ((allGe M L _).bindP _ _ _).mono (by omega)
          | exact ((allGe M L _).ifP _ _).mono (by omega)
          | exact ((allGe M L _).caseP _ _).mono (by omega)
          | exact ((allGe M L _).consP _ _).mono (by omega)
          | exact ((allGe M L _).compP _ _).mono (by omega)
          | exact ((allGe M L _).sumP _ _).mono (by omega)
          | exact ((allGe M L _).sumL _ _ _).mono (by omega)
          | exact ((allGe M L _).termP _ _).mono (by omega)
          | exact ((allGe M L _).termL _ _ _).mono (by omega)
          | exact ((allGe M L _).unitP _ _).mono (by omega)
          | exact ((allGe M L _).namedP _ _).mono (by omega)
          | exact ((allGe M L _).wordedP _ _).mono (by omega)
          | exact ((allGe M L _).brackP _ _).mono (by omega)
          | exact ((allGe M L _).argsP _ _).mono (by omega)
          | exact ((allGe M L _).argsL _ _ _).mono (by omega)
          | refine Rs.Ge.bind ?_ fun _ _ _ => ?_
          | split))
      refine SR.bind hd (by omega) (ge_name M _) (sr_name M M' hd hM _ (by omega)) (fun x x' k7 h7 g7 r7 => ?_) (by
        intro _ _ _
        repeat' (first
          | exact ge_ok _ (by omega)
          | exact ge_bad _ (by omega)
          | exact (ge_must M _ _).mono (by omega)
          | exact (ge_name M _).mono (by omega)
          | exact (ge_type M _).mono (by omega)
          | exact ((allGe M L _).exprP _ _).mono (by omega)
          | exact ((allGe M L _).bindP _ _ _).mono (by omega)
          | exact ((allGe M L _).ifP _ _).mono (by omega)
          | exact ((allGe M L _).caseP _ _).mono (by omega)
          | exact ((allGe M L _).consP _ _).mono (by omega)
          | exact ((allGe M L _).compP _ _).mono (by omega)
          | exact ((allGe M L _).sumP _ _).mono (by omega)
          | exact ((allGe M L _).sumL _ _ _).mono (by omega)
          | exact ((allGe M L _).termP _ _).mono (by omega)
          | exact ((allGe M L _).termL _ _ _).mono (by omega)
          | exact ((allGe M L _).unitP _ _).mono (by omega)
          | exact ((allGe M L _).namedP _ _).mono (by omega)
          | exact ((allGe M L _).wordedP _ _).mono (by omega)
          | exact ((allGe M L _).brackP _ _).mono (by omega)
          | exact ((allGe M L _).argsP _ _).mono (by omega)
          | exact ((allGe M L _).argsL _ _ _).mono (by omega)
          | refine Rs.Ge.bind ?_ fun _ _ _ => ?_
          | split))
      refine SR.bind hd (by omega) (ge_must M _ _) (sr_must M M' hd hM _ _ (by omega)) (fun _ _ k8 h8 g8 _ => ?_) (by
        intro _ _ _
        repeat' (first
          | exact ge_ok _ (by omega)
          | exact ge_bad _ (by omega)
          | exact (ge_must M _ _).mono (by omega)
          | exact (ge_name M _).mono (by omega)
          | exact (ge_type M _).mono (by omega)
          | exact ((allGe M L _).exprP _ _).mono (by omega)
          | exact ((allGe M L _).bindP _ _ _).mono (by omega)
          | exact ((allGe M L _).ifP _ _).mono (by omega)
          | exact ((allGe M L _).caseP _ _).mono (by omega)
          | exact ((allGe M L _).consP _ _).mono (by omega)
          | exact ((allGe M L _).compP _ _).mono (by omega)
          | exact ((allGe M L _).sumP _ _).mono (by omega)
          | exact ((allGe M L _).sumL _ _ _).mono (by omega)
          | exact ((allGe M L _).termP _ _).mono (by omega)
          | exact ((allGe M L _).termL _ _ _).mono (by omega)
          | exact ((allGe M L _).unitP _ _).mono (by omega)
          | exact ((allGe M L _).namedP _ _).mono (by omega)
          | exact ((allGe M L _).wordedP _ _).mono (by omega)
          | exact ((allGe M L _).brackP _ _).mono (by omega)
          | exact ((allGe M L _).argsP _ _).mono (by omega)
          | exact ((allGe M L _).argsL _ _ _).mono (by omega)
          | refine Rs.Ge.bind ?_ fun _ _ _ => ?_
          | split))
      refine SR.bind hd (by omega) (ge_name M _) (sr_name M M' hd hM _ (by omega)) (fun y y' k9 h9 g9 r9 => ?_) (by
        intro _ _ _
        repeat' (first
          | exact ge_ok _ (by omega)
          | exact ge_bad _ (by omega)
          | exact (ge_must M _ _).mono (by omega)
          | exact (ge_name M _).mono (by omega)
          | exact (ge_type M _).mono (by omega)
          | exact ((allGe M L _).exprP _ _).mono (by omega)
          | exact ((allGe M L _).bindP _ _ _).mono (by omega)
          | exact ((allGe M L _).ifP _ _).mono (by omega)
          | exact ((allGe M L _).caseP _ _).mono (by omega)
          | exact ((allGe M L _).consP _ _).mono (by omega)
          | exact ((allGe M L _).compP _ _).mono (by omega)
          | exact ((allGe M L _).sumP _ _).mono (by omega)
          | exact ((allGe M L _).sumL _ _ _).mono (by omega)
          | exact ((allGe M L _).termP _ _).mono (by omega)
          | exact ((allGe M L _).termL _ _ _).mono (by omega)
          | exact ((allGe M L _).unitP _ _).mono (by omega)
          | exact ((allGe M L _).namedP _ _).mono (by omega)
          | exact ((allGe M L _).wordedP _ _).mono (by omega)
          | exact ((allGe M L _).brackP _ _).mono (by omega)
          | exact ((allGe M L _).argsP _ _).mono (by omega)
          | exact ((allGe M L _).argsL _ _ _).mono (by omega)
          | refine Rs.Ge.bind ?_ fun _ _ _ => ?_
          | split))
      refine SR.bind hd (by omega) (ge_must M _ _) (sr_must M M' hd hM _ _ (by omega)) (fun _ _ k10 h10 g10 _ => ?_) (by
        intro _ _ _
        repeat' (first
          | exact ge_ok _ (by omega)
          | exact ge_bad _ (by omega)
          | exact (ge_must M _ _).mono (by omega)
          | exact (ge_name M _).mono (by omega)
          | exact (ge_type M _).mono (by omega)
          | exact ((allGe M L _).exprP _ _).mono (by omega)
          | exact ((allGe M L _).bindP _ _ _).mono (by omega)
          | exact ((allGe M L _).ifP _ _).mono (by omega)
          | exact ((allGe M L _).caseP _ _).mono (by omega)
          | exact ((allGe M L _).consP _ _).mono (by omega)
          | exact ((allGe M L _).compP _ _).mono (by omega)
          | exact ((allGe M L _).sumP _ _).mono (by omega)
          | exact ((allGe M L _).sumL _ _ _).mono (by omega)
          | exact ((allGe M L _).termP _ _).mono (by omega)
          | exact ((allGe M L _).termL _ _ _).mono (by omega)
          | exact ((allGe M L _).unitP _ _).mono (by omega)
          | exact ((allGe M L _).namedP _ _).mono (by omega)
          | exact ((allGe M L _).wordedP _ _).mono (by omega)
          | exact ((allGe M L _).brackP _ _).mono (by omega)
          | exact ((allGe M L _).argsP _ _).mono (by omega)
          | exact ((allGe M L _).argsL _ _ _).mono (by omega)
          | refine Rs.Ge.bind ?_ fun _ _ _ => ?_
          | split))
      refine SR.bind hd (by omega) ((allGe M L _).exprP _ _) (ih.exprP _ _ (by omega)) (fun c c' k11 h11 g11 r11 => ?_) (by
        intro _ _ _
        repeat' (first
          | exact ge_ok _ (by omega)
          | exact ge_bad _ (by omega)
          | exact (ge_must M _ _).mono (by omega)
          | exact (ge_name M _).mono (by omega)
          | exact (ge_type M _).mono (by omega)
          | exact ((allGe M L _).exprP _ _).mono (by omega)
          | exact ((allGe M L _).bindP _ _ _).mono (by omega)
          | exact ((allGe M L _).ifP _ _).mono (by omega)
          | exact ((allGe M L _).caseP _ _).mono (by omega)
          | exact ((allGe M L _).consP _ _).mono (by omega)
          | exact ((allGe M L _).compP _ _).mono (by omega)
          | exact ((allGe M L _).sumP _ _).mono (by omega)
          | exact ((allGe M L _).sumL _ _ _).mono (by omega)
          | exact ((allGe M L _).termP _ _).mono (by omega)
          | exact ((allGe M L _).termL _ _ _).mono (by omega)
          | exact ((allGe M L _).unitP _ _).mono (by omega)
          | exact ((allGe M L _).namedP _ _).mono (by omega)
          | exact ((allGe M L _).wordedP _ _).mono (by omega)
          | exact ((allGe M L _).brackP _ _).mono (by omega)
          | exact ((allGe M L _).argsP _ _).mono (by omega)
          | exact ((allGe M L _).argsL _ _ _).mono (by omega)
          | refine Rs.Ge.bind ?_ fun _ _ _ => ?_
          | split))
      refine SR.ok ?_ rfl
      rw [r7.text, r9.text]
      exact .mk (hM k hk hK).at_ (.cons r1 (.cons r5 (.cons r11 .nil)))
    · intro d k hk
      rw [Proofs.YtkonkplalgoekaaGreatDoor.consP, Proofs.YtkonkplalgoekaaGreatDoor.consP]
      refine SR.bind hd (by omega) ((allGe M L _).compP _ _) (ih.compP _ _ (by omega)) (fun a a' k1 h1 g1 r1 => ?_) (by
        intro _ _ _
        repeat' (first
          | exact ge_ok _ (by omega)
          | exact ge_bad _ (by omega)
          | exact (ge_must M _ _).mono (by omega)
          | exact (ge_name M _).mono (by omega)
          | exact (ge_type M _).mono (by omega)
          | exact ((allGe M L _).exprP _ _).mono (by omega)
          | exact ((allGe M L _).bindP _ _ _).mono (by omega)
          | exact ((allGe M L _).ifP _ _).mono (by omega)
          | exact ((allGe M L _).caseP _ _).mono (by omega)
          | exact ((allGe M L _).consP _ _).mono (by omega)
          | exact ((allGe M L _).compP _ _).mono (by omega)
          | exact ((allGe M L _).sumP _ _).mono (by omega)
          | exact ((allGe M L _).sumL _ _ _).mono (by omega)
          | exact ((allGe M L _).termP _ _).mono (by omega)
          | exact ((allGe M L _).termL _ _ _).mono (by omega)
          | exact ((allGe M L _).unitP _ _).mono (by omega)
          | exact ((allGe M L _).namedP _ _).mono (by omega)
          | exact ((allGe M L _).wordedP _ _).mono (by omega)
          | exact ((allGe M L _).brackP _ _).mono (by omega)
          | exact ((allGe M L _).argsP _ _).mono (by omega)
          | exact ((allGe M L _).argsL _ _ _).mono (by omega)
          | refine Rs.Ge.bind ?_ fun _ _ _ => ?_
          | split))
      refine SR.ite (tk_iff M M' hM (by omega) g1) (fun _ => ?_) fun _ => SR.ok r1 rfl
      simp only [Nat.add_right_comm _ s 1]
      refine SR.bind hd (by omega) ((allGe M L _).consP _ _) (ih.consP _ _ (by omega)) (fun b b' k2 h2 g2 r2 => ?_) (by
        intro _ _ _
        repeat' (first
          | exact ge_ok _ (by omega)
          | exact ge_bad _ (by omega)
          | exact (ge_must M _ _).mono (by omega)
          | exact (ge_name M _).mono (by omega)
          | exact (ge_type M _).mono (by omega)
          | exact ((allGe M L _).exprP _ _).mono (by omega)
          | exact ((allGe M L _).bindP _ _ _).mono (by omega)
          | exact ((allGe M L _).ifP _ _).mono (by omega)
          | exact ((allGe M L _).caseP _ _).mono (by omega)
          | exact ((allGe M L _).consP _ _).mono (by omega)
          | exact ((allGe M L _).compP _ _).mono (by omega)
          | exact ((allGe M L _).sumP _ _).mono (by omega)
          | exact ((allGe M L _).sumL _ _ _).mono (by omega)
          | exact ((allGe M L _).termP _ _).mono (by omega)
          | exact ((allGe M L _).termL _ _ _).mono (by omega)
          | exact ((allGe M L _).unitP _ _).mono (by omega)
          | exact ((allGe M L _).namedP _ _).mono (by omega)
          | exact ((allGe M L _).wordedP _ _).mono (by omega)
          | exact ((allGe M L _).brackP _ _).mono (by omega)
          | exact ((allGe M L _).argsP _ _).mono (by omega)
          | exact ((allGe M L _).argsL _ _ _).mono (by omega)
          | refine Rs.Ge.bind ?_ fun _ _ _ => ?_
          | split))
      exact SR.ok (r1.two r2 (hM k1 (by omega) g1)) rfl
    · intro d k hk
      rw [Proofs.YtkonkplalgoekaaGreatDoor.compP, Proofs.YtkonkplalgoekaaGreatDoor.compP]
      refine SR.bind hd (by omega) ((allGe M L _).sumP _ _) (ih.sumP _ _ (by omega)) (fun a a' k1 h1 g1 r1 => ?_) (by
        intro _ _ _
        repeat' (first
          | exact ge_ok _ (by omega)
          | exact ge_bad _ (by omega)
          | exact (ge_must M _ _).mono (by omega)
          | exact (ge_name M _).mono (by omega)
          | exact (ge_type M _).mono (by omega)
          | exact ((allGe M L _).exprP _ _).mono (by omega)
          | exact ((allGe M L _).bindP _ _ _).mono (by omega)
          | exact ((allGe M L _).ifP _ _).mono (by omega)
          | exact ((allGe M L _).caseP _ _).mono (by omega)
          | exact ((allGe M L _).consP _ _).mono (by omega)
          | exact ((allGe M L _).compP _ _).mono (by omega)
          | exact ((allGe M L _).sumP _ _).mono (by omega)
          | exact ((allGe M L _).sumL _ _ _).mono (by omega)
          | exact ((allGe M L _).termP _ _).mono (by omega)
          | exact ((allGe M L _).termL _ _ _).mono (by omega)
          | exact ((allGe M L _).unitP _ _).mono (by omega)
          | exact ((allGe M L _).namedP _ _).mono (by omega)
          | exact ((allGe M L _).wordedP _ _).mono (by omega)
          | exact ((allGe M L _).brackP _ _).mono (by omega)
          | exact ((allGe M L _).argsP _ _).mono (by omega)
          | exact ((allGe M L _).argsL _ _ _).mono (by omega)
          | refine Rs.Ge.bind ?_ fun _ _ _ => ?_
          | split))
      simp only [Nat.add_right_comm _ s 1]
      refine SR.ite (tk_iff M M' hM (by omega) g1) (fun _ => ?_) fun _ => SR.ite (tk_iff M M' hM (by omega) g1) (fun _ => ?_) fun _ => SR.ok r1 rfl
      · refine SR.bind hd (by omega) ((allGe M L _).sumP _ _) (ih.sumP _ _ (by omega)) (fun b b' k2 h2 g2 r2 => ?_) (by
          intro _ _ _
          repeat' (first
            | exact ge_ok _ (by omega)
            | exact ge_bad _ (by omega)
            | exact (ge_must M _ _).mono (by omega)
            | exact (ge_name M _).mono (by omega)
            | exact (ge_type M _).mono (by omega)
            | exact ((allGe M L _).exprP _ _).mono (by omega)
            | exact ((allGe M L _).bindP _ _ _).mono (by omega)
            | exact ((allGe M L _).ifP _ _).mono (by omega)
            | exact ((allGe M L _).caseP _ _).mono (by omega)
            | exact ((allGe M L _).consP _ _).mono (by omega)
            | exact ((allGe M L _).compP _ _).mono (by omega)
            | exact ((allGe M L _).sumP _ _).mono (by omega)
            | exact ((allGe M L _).sumL _ _ _).mono (by omega)
            | exact ((allGe M L _).termP _ _).mono (by omega)
            | exact ((allGe M L _).termL _ _ _).mono (by omega)
            | exact ((allGe M L _).unitP _ _).mono (by omega)
            | exact ((allGe M L _).namedP _ _).mono (by omega)
            | exact ((allGe M L _).wordedP _ _).mono (by omega)
            | exact ((allGe M L _).brackP _ _).mono (by omega)
            | exact ((allGe M L _).argsP _ _).mono (by omega)
            | exact ((allGe M L _).argsL _ _ _).mono (by omega)
            | refine Rs.Ge.bind ?_ fun _ _ _ => ?_
            | split))
        exact SR.ok (r1.two r2 (hM k1 (by omega) g1)) rfl
      · refine SR.bind hd (by omega) ((allGe M L _).sumP _ _) (ih.sumP _ _ (by omega)) (fun b b' k2 h2 g2 r2 => ?_) (by
          intro _ _ _
          repeat' (first
            | exact ge_ok _ (by omega)
            | exact ge_bad _ (by omega)
            | exact (ge_must M _ _).mono (by omega)
            | exact (ge_name M _).mono (by omega)
            | exact (ge_type M _).mono (by omega)
            | exact ((allGe M L _).exprP _ _).mono (by omega)
            | exact ((allGe M L _).bindP _ _ _).mono (by omega)
            | exact ((allGe M L _).ifP _ _).mono (by omega)
            | exact ((allGe M L _).caseP _ _).mono (by omega)
            | exact ((allGe M L _).consP _ _).mono (by omega)
            | exact ((allGe M L _).compP _ _).mono (by omega)
            | exact ((allGe M L _).sumP _ _).mono (by omega)
            | exact ((allGe M L _).sumL _ _ _).mono (by omega)
            | exact ((allGe M L _).termP _ _).mono (by omega)
            | exact ((allGe M L _).termL _ _ _).mono (by omega)
            | exact ((allGe M L _).unitP _ _).mono (by omega)
            | exact ((allGe M L _).namedP _ _).mono (by omega)
            | exact ((allGe M L _).wordedP _ _).mono (by omega)
            | exact ((allGe M L _).brackP _ _).mono (by omega)
            | exact ((allGe M L _).argsP _ _).mono (by omega)
            | exact ((allGe M L _).argsL _ _ _).mono (by omega)
            | refine Rs.Ge.bind ?_ fun _ _ _ => ?_
            | split))
        exact SR.ok (r1.two r2 (hM k1 (by omega) g1)) rfl
    · intro d k hk
      rw [Proofs.YtkonkplalgoekaaGreatDoor.sumP, Proofs.YtkonkplalgoekaaGreatDoor.sumP]
      refine SR.bind hd (by omega) ((allGe M L _).termP _ _) (ih.termP _ _ (by omega)) (fun a a' k1 h1 g1 r1 => ?_) (by
        intro _ _ _
        repeat' (first
          | exact ge_ok _ (by omega)
          | exact ge_bad _ (by omega)
          | exact (ge_must M _ _).mono (by omega)
          | exact (ge_name M _).mono (by omega)
          | exact (ge_type M _).mono (by omega)
          | exact ((allGe M L _).exprP _ _).mono (by omega)
          | exact ((allGe M L _).bindP _ _ _).mono (by omega)
          | exact ((allGe M L _).ifP _ _).mono (by omega)
          | exact ((allGe M L _).caseP _ _).mono (by omega)
          | exact ((allGe M L _).consP _ _).mono (by omega)
          | exact ((allGe M L _).compP _ _).mono (by omega)
          | exact ((allGe M L _).sumP _ _).mono (by omega)
          | exact ((allGe M L _).sumL _ _ _).mono (by omega)
          | exact ((allGe M L _).termP _ _).mono (by omega)
          | exact ((allGe M L _).termL _ _ _).mono (by omega)
          | exact ((allGe M L _).unitP _ _).mono (by omega)
          | exact ((allGe M L _).namedP _ _).mono (by omega)
          | exact ((allGe M L _).wordedP _ _).mono (by omega)
          | exact ((allGe M L _).brackP _ _).mono (by omega)
          | exact ((allGe M L _).argsP _ _).mono (by omega)
          | exact ((allGe M L _).argsL _ _ _).mono (by omega)
          | refine Rs.Ge.bind ?_ fun _ _ _ => ?_
          | split))
      exact ih.sumL _ _ _ _ (by omega) r1
    · intro d a a' k hk ha
      refine SR.of_K hd hk ((allGe M L _).sumL _ _ _) fun hK => ?_
      rw [Proofs.YtkonkplalgoekaaGreatDoor.sumL, Proofs.YtkonkplalgoekaaGreatDoor.sumL]
      simp only [Nat.add_right_comm _ s 1]
      refine SR.ite (tk_iff M M' hM hk hK) (fun _ => ?_) fun _ => SR.ite (tk_iff M M' hM hk hK) (fun _ => ?_) fun _ => SR.ok ha rfl
      · refine SR.bind hd (by omega) ((allGe M L _).termP _ _) (ih.termP _ _ (by omega)) (fun b b' k1 h1 g1 r1 => ?_) (by
          intro _ _ _
          repeat' (first
            | exact ge_ok _ (by omega)
            | exact ge_bad _ (by omega)
            | exact (ge_must M _ _).mono (by omega)
            | exact (ge_name M _).mono (by omega)
            | exact (ge_type M _).mono (by omega)
            | exact ((allGe M L _).exprP _ _).mono (by omega)
            | exact ((allGe M L _).bindP _ _ _).mono (by omega)
            | exact ((allGe M L _).ifP _ _).mono (by omega)
            | exact ((allGe M L _).caseP _ _).mono (by omega)
            | exact ((allGe M L _).consP _ _).mono (by omega)
            | exact ((allGe M L _).compP _ _).mono (by omega)
            | exact ((allGe M L _).sumP _ _).mono (by omega)
            | exact ((allGe M L _).sumL _ _ _).mono (by omega)
            | exact ((allGe M L _).termP _ _).mono (by omega)
            | exact ((allGe M L _).termL _ _ _).mono (by omega)
            | exact ((allGe M L _).unitP _ _).mono (by omega)
            | exact ((allGe M L _).namedP _ _).mono (by omega)
            | exact ((allGe M L _).wordedP _ _).mono (by omega)
            | exact ((allGe M L _).brackP _ _).mono (by omega)
            | exact ((allGe M L _).argsP _ _).mono (by omega)
            | exact ((allGe M L _).argsL _ _ _).mono (by omega)
            | refine Rs.Ge.bind ?_ fun _ _ _ => ?_
            | split))
        exact ih.sumL _ _ _ _ (by omega) (ha.two r1 (hM k hk hK))
      · refine SR.bind hd (by omega) ((allGe M L _).termP _ _) (ih.termP _ _ (by omega)) (fun b b' k1 h1 g1 r1 => ?_) (by
          intro _ _ _
          repeat' (first
            | exact ge_ok _ (by omega)
            | exact ge_bad _ (by omega)
            | exact (ge_must M _ _).mono (by omega)
            | exact (ge_name M _).mono (by omega)
            | exact (ge_type M _).mono (by omega)
            | exact ((allGe M L _).exprP _ _).mono (by omega)
            | exact ((allGe M L _).bindP _ _ _).mono (by omega)
            | exact ((allGe M L _).ifP _ _).mono (by omega)
            | exact ((allGe M L _).caseP _ _).mono (by omega)
            | exact ((allGe M L _).consP _ _).mono (by omega)
            | exact ((allGe M L _).compP _ _).mono (by omega)
            | exact ((allGe M L _).sumP _ _).mono (by omega)
            | exact ((allGe M L _).sumL _ _ _).mono (by omega)
            | exact ((allGe M L _).termP _ _).mono (by omega)
            | exact ((allGe M L _).termL _ _ _).mono (by omega)
            | exact ((allGe M L _).unitP _ _).mono (by omega)
            | exact ((allGe M L _).namedP _ _).mono (by omega)
            | exact ((allGe M L _).wordedP _ _).mono (by omega)
            | exact ((allGe M L _).brackP _ _).mono (by omega)
            | exact ((allGe M L _).argsP _ _).mono (by omega)
            | exact ((allGe M L _).argsL _ _ _).mono (by omega)
            | refine Rs.Ge.bind ?_ fun _ _ _ => ?_
            | split))
        exact ih.sumL _ _ _ _ (by omega) (ha.two r1 (hM k hk hK))
    · intro d k hk
      rw [Proofs.YtkonkplalgoekaaGreatDoor.termP, Proofs.YtkonkplalgoekaaGreatDoor.termP]
      refine SR.bind hd (by omega) ((allGe M L _).unitP _ _) (ih.unitP _ _ (by omega)) (fun a a' k1 h1 g1 r1 => ?_) (by
        intro _ _ _
        repeat' (first
          | exact ge_ok _ (by omega)
          | exact ge_bad _ (by omega)
          | exact (ge_must M _ _).mono (by omega)
          | exact (ge_name M _).mono (by omega)
          | exact (ge_type M _).mono (by omega)
          | exact ((allGe M L _).exprP _ _).mono (by omega)
          | exact ((allGe M L _).bindP _ _ _).mono (by omega)
          | exact ((allGe M L _).ifP _ _).mono (by omega)
          | exact ((allGe M L _).caseP _ _).mono (by omega)
          | exact ((allGe M L _).consP _ _).mono (by omega)
          | exact ((allGe M L _).compP _ _).mono (by omega)
          | exact ((allGe M L _).sumP _ _).mono (by omega)
          | exact ((allGe M L _).sumL _ _ _).mono (by omega)
          | exact ((allGe M L _).termP _ _).mono (by omega)
          | exact ((allGe M L _).termL _ _ _).mono (by omega)
          | exact ((allGe M L _).unitP _ _).mono (by omega)
          | exact ((allGe M L _).namedP _ _).mono (by omega)
          | exact ((allGe M L _).wordedP _ _).mono (by omega)
          | exact ((allGe M L _).brackP _ _).mono (by omega)
          | exact ((allGe M L _).argsP _ _).mono (by omega)
          | exact ((allGe M L _).argsL _ _ _).mono (by omega)
          | refine Rs.Ge.bind ?_ fun _ _ _ => ?_
          | split))
      exact ih.termL _ _ _ _ (by omega) r1
    · intro d a a' k hk ha
      refine SR.of_K hd hk ((allGe M L _).termL _ _ _) fun hK => ?_
      rw [Proofs.YtkonkplalgoekaaGreatDoor.termL, Proofs.YtkonkplalgoekaaGreatDoor.termL]
      simp only [Nat.add_right_comm _ s 1]
      refine SR.ite (tk_iff M M' hM hk hK) (fun _ => ?_) fun _ => SR.ite (tk_iff M M' hM hk hK) (fun _ => ?_) fun _ => SR.ok ha rfl
      · refine SR.bind hd (by omega) ((allGe M L _).unitP _ _) (ih.unitP _ _ (by omega)) (fun b b' k1 h1 g1 r1 => ?_) (by
          intro _ _ _
          repeat' (first
            | exact ge_ok _ (by omega)
            | exact ge_bad _ (by omega)
            | exact (ge_must M _ _).mono (by omega)
            | exact (ge_name M _).mono (by omega)
            | exact (ge_type M _).mono (by omega)
            | exact ((allGe M L _).exprP _ _).mono (by omega)
            | exact ((allGe M L _).bindP _ _ _).mono (by omega)
            | exact ((allGe M L _).ifP _ _).mono (by omega)
            | exact ((allGe M L _).caseP _ _).mono (by omega)
            | exact ((allGe M L _).consP _ _).mono (by omega)
            | exact ((allGe M L _).compP _ _).mono (by omega)
            | exact ((allGe M L _).sumP _ _).mono (by omega)
            | exact ((allGe M L _).sumL _ _ _).mono (by omega)
            | exact ((allGe M L _).termP _ _).mono (by omega)
            | exact ((allGe M L _).termL _ _ _).mono (by omega)
            | exact ((allGe M L _).unitP _ _).mono (by omega)
            | exact ((allGe M L _).namedP _ _).mono (by omega)
            | exact ((allGe M L _).wordedP _ _).mono (by omega)
            | exact ((allGe M L _).brackP _ _).mono (by omega)
            | exact ((allGe M L _).argsP _ _).mono (by omega)
            | exact ((allGe M L _).argsL _ _ _).mono (by omega)
            | refine Rs.Ge.bind ?_ fun _ _ _ => ?_
            | split))
        exact ih.termL _ _ _ _ (by omega) (ha.two r1 (hM k hk hK))
      · refine SR.bind hd (by omega) ((allGe M L _).unitP _ _) (ih.unitP _ _ (by omega)) (fun b b' k1 h1 g1 r1 => ?_) (by
          intro _ _ _
          repeat' (first
            | exact ge_ok _ (by omega)
            | exact ge_bad _ (by omega)
            | exact (ge_must M _ _).mono (by omega)
            | exact (ge_name M _).mono (by omega)
            | exact (ge_type M _).mono (by omega)
            | exact ((allGe M L _).exprP _ _).mono (by omega)
            | exact ((allGe M L _).bindP _ _ _).mono (by omega)
            | exact ((allGe M L _).ifP _ _).mono (by omega)
            | exact ((allGe M L _).caseP _ _).mono (by omega)
            | exact ((allGe M L _).consP _ _).mono (by omega)
            | exact ((allGe M L _).compP _ _).mono (by omega)
            | exact ((allGe M L _).sumP _ _).mono (by omega)
            | exact ((allGe M L _).sumL _ _ _).mono (by omega)
            | exact ((allGe M L _).termP _ _).mono (by omega)
            | exact ((allGe M L _).termL _ _ _).mono (by omega)
            | exact ((allGe M L _).unitP _ _).mono (by omega)
            | exact ((allGe M L _).namedP _ _).mono (by omega)
            | exact ((allGe M L _).wordedP _ _).mono (by omega)
            | exact ((allGe M L _).brackP _ _).mono (by omega)
            | exact ((allGe M L _).argsP _ _).mono (by omega)
            | exact ((allGe M L _).argsL _ _ _).mono (by omega)
            | refine Rs.Ge.bind ?_ fun _ _ _ => ?_
            | split))
        exact ih.termL _ _ _ _ (by omega) (ha.two r1 (hM k hk hK))
    · intro d k hk
      refine SR.of_K hd hk ((allGe M L _).unitP _ _) fun hK => ?_
      rw [Proofs.YtkonkplalgoekaaGreatDoor.unitP, Proofs.YtkonkplalgoekaaGreatDoor.unitP]
      have hm := hM k hk hK
      refine SR.ite (kd_iff M M' hM hk hK) (fun _ => ?_) fun _ => ?_
      · rw [hm.p, hm.q]
        exact SR.ok (.mk hm.at_ .nil) (by omega)
      exact SR.ite (kd_iff M M' hM hk hK) (fun _ => ih.namedP _ _ hk hK) fun _ => SR.ite (kd_iff M M' hM hk hK) (fun _ => ih.wordedP _ _ hk hK) fun _ => ih.brackP _ _ hk
    · intro d k hk hK
      rw [Proofs.YtkonkplalgoekaaGreatDoor.namedP, Proofs.YtkonkplalgoekaaGreatDoor.namedP]
      have hm := hM k hk hK
      refine SR.of_K hd (k := k + 1) (by omega) ?_ fun hK1 => ?_
      · repeat' (first
            | exact ge_ok _ (by omega)
            | exact ge_bad _ (by omega)
            | exact (ge_must M _ _).mono (by omega)
            | exact (ge_name M _).mono (by omega)
            | exact (ge_type M _).mono (by omega)
            | exact ((allGe M L _).exprP _ _).mono (by omega)
            | exact ((allGe M L _).bindP _ _ _).mono (by omega)
            | exact ((allGe M L _).ifP _ _).mono (by omega)
            | exact ((allGe M L _).caseP _ _).mono (by omega)
            | exact ((allGe M L _).consP _ _).mono (by omega)
            | exact ((allGe M L _).compP _ _).mono (by omega)
            | exact ((allGe M L _).sumP _ _).mono (by omega)
            | exact ((allGe M L _).sumL _ _ _).mono (by omega)
            | exact ((allGe M L _).termP _ _).mono (by omega)
            | exact ((allGe M L _).termL _ _ _).mono (by omega)
            | exact ((allGe M L _).unitP _ _).mono (by omega)
            | exact ((allGe M L _).namedP _ _).mono (by omega)
            | exact ((allGe M L _).wordedP _ _).mono (by omega)
            | exact ((allGe M L _).brackP _ _).mono (by omega)
            | exact ((allGe M L _).argsP _ _).mono (by omega)
            | exact ((allGe M L _).argsL _ _ _).mono (by omega)
            | refine Rs.Ge.bind ?_ fun _ _ _ => ?_
            | split)
      simp only [Nat.add_right_comm _ s 1, Nat.add_right_comm _ s 2]
      rw [hm.text]
      refine SR.ite (tk_iff M M' hM (by omega) hK1) (fun _ => ?_) fun _ => SR.ok (.mk hm.at_ .nil) rfl
      refine SR.bind hd (by omega) ((allGe M L _).argsP _ _) (ih.argsP _ _ (by omega)) (fun l l' k1 h1 g1 r1 => ?_) (by
        intro _ _ _
        repeat' (first
          | exact ge_ok _ (by omega)
          | exact ge_bad _ (by omega)
          | exact (ge_must M _ _).mono (by omega)
          | exact (ge_name M _).mono (by omega)
          | exact (ge_type M _).mono (by omega)
          | exact ((allGe M L _).exprP _ _).mono (by omega)
          | exact ((allGe M L _).bindP _ _ _).mono (by omega)
          | exact ((allGe M L _).ifP _ _).mono (by omega)
          | exact ((allGe M L _).caseP _ _).mono (by omega)
          | exact ((allGe M L _).consP _ _).mono (by omega)
          | exact ((allGe M L _).compP _ _).mono (by omega)
          | exact ((allGe M L _).sumP _ _).mono (by omega)
          | exact ((allGe M L _).sumL _ _ _).mono (by omega)
          | exact ((allGe M L _).termP _ _).mono (by omega)
          | exact ((allGe M L _).termL _ _ _).mono (by omega)
          | exact ((allGe M L _).unitP _ _).mono (by omega)
          | exact ((allGe M L _).namedP _ _).mono (by omega)
          | exact ((allGe M L _).wordedP _ _).mono (by omega)
          | exact ((allGe M L _).brackP _ _).mono (by omega)
          | exact ((allGe M L _).argsP _ _).mono (by omega)
          | exact ((allGe M L _).argsL _ _ _).mono (by omega)
          | refine Rs.Ge.bind ?_ fun _ _ _ => ?_
          | split))
      exact SR.ok (.mk hm.at_ r1) rfl
    · intro d k hk hK
      rw [Proofs.YtkonkplalgoekaaGreatDoor.wordedP, Proofs.YtkonkplalgoekaaGreatDoor.wordedP]
      have hm := hM k hk hK
      simp only [Nat.add_right_comm _ s 1]
      rw [hm.text]
      refine SR.ite Iff.rfl (fun _ => SR.bad rfl) fun _ => SR.ite Iff.rfl (fun _ => ?_) fun _ => SR.ite Iff.rfl (fun _ => ?_) fun _ => SR.ok (.mk hm.at_ .nil) rfl
      · refine SR.bind hd (by omega) (ge_type M _) (sr_type M M' hd hM _ (by omega)) (fun t t' k1 h1 g1 r1 => ?_) (by
          intro _ _ _
          repeat' (first
            | exact ge_ok _ (by omega)
            | exact ge_bad _ (by omega)
            | exact (ge_must M _ _).mono (by omega)
            | exact (ge_name M _).mono (by omega)
            | exact (ge_type M _).mono (by omega)
            | exact ((allGe M L _).exprP _ _).mono (by omega)
            | exact ((allGe M L _).bindP _ _ _).mono (by omega)
            | exact ((allGe M L _).ifP _ _).mono (by omega)
            | exact ((allGe M L _).caseP _ _).mono (by omega)
            | exact ((allGe M L _).consP _ _).mono (by omega)
            | exact ((allGe M L _).compP _ _).mono (by omega)
            | exact ((allGe M L _).sumP _ _).mono (by omega)
            | exact ((allGe M L _).sumL _ _ _).mono (by omega)
            | exact ((allGe M L _).termP _ _).mono (by omega)
            | exact ((allGe M L _).termL _ _ _).mono (by omega)
            | exact ((allGe M L _).unitP _ _).mono (by omega)
            | exact ((allGe M L _).namedP _ _).mono (by omega)
            | exact ((allGe M L _).wordedP _ _).mono (by omega)
            | exact ((allGe M L _).brackP _ _).mono (by omega)
            | exact ((allGe M L _).argsP _ _).mono (by omega)
            | exact ((allGe M L _).argsL _ _ _).mono (by omega)
            | refine Rs.Ge.bind ?_ fun _ _ _ => ?_
            | split))
        subst r1
        exact SR.ok (.mk hm.at_ .nil) rfl
      · refine SR.bind hd (by omega) ((allGe M L _).brackP _ _) (ih.brackP _ _ (by omega)) (fun b b' k1 h1 g1 r1 => ?_) (by
          intro _ _ _
          repeat' (first
            | exact ge_ok _ (by omega)
            | exact ge_bad _ (by omega)
            | exact (ge_must M _ _).mono (by omega)
            | exact (ge_name M _).mono (by omega)
            | exact (ge_type M _).mono (by omega)
            | exact ((allGe M L _).exprP _ _).mono (by omega)
            | exact ((allGe M L _).bindP _ _ _).mono (by omega)
            | exact ((allGe M L _).ifP _ _).mono (by omega)
            | exact ((allGe M L _).caseP _ _).mono (by omega)
            | exact ((allGe M L _).consP _ _).mono (by omega)
            | exact ((allGe M L _).compP _ _).mono (by omega)
            | exact ((allGe M L _).sumP _ _).mono (by omega)
            | exact ((allGe M L _).sumL _ _ _).mono (by omega)
            | exact ((allGe M L _).termP _ _).mono (by omega)
            | exact ((allGe M L _).termL _ _ _).mono (by omega)
            | exact ((allGe M L _).unitP _ _).mono (by omega)
            | exact ((allGe M L _).namedP _ _).mono (by omega)
            | exact ((allGe M L _).wordedP _ _).mono (by omega)
            | exact ((allGe M L _).brackP _ _).mono (by omega)
            | exact ((allGe M L _).argsP _ _).mono (by omega)
            | exact ((allGe M L _).argsL _ _ _).mono (by omega)
            | refine Rs.Ge.bind ?_ fun _ _ _ => ?_
            | split))
        exact SR.ok (.mk hm.at_ (.cons r1 .nil)) rfl
    · intro d k hk
      rw [Proofs.YtkonkplalgoekaaGreatDoor.brackP, Proofs.YtkonkplalgoekaaGreatDoor.brackP]
      refine SR.bind hd (by omega) (ge_must M _ _) (sr_must M M' hd hM _ _ (by omega)) (fun _ _ k1 h1 g1 _ => ?_) (by
        intro _ _ _
        repeat' (first
          | exact ge_ok _ (by omega)
          | exact ge_bad _ (by omega)
          | exact (ge_must M _ _).mono (by omega)
          | exact (ge_name M _).mono (by omega)
          | exact (ge_type M _).mono (by omega)
          | exact ((allGe M L _).exprP _ _).mono (by omega)
          | exact ((allGe M L _).bindP _ _ _).mono (by omega)
          | exact ((allGe M L _).ifP _ _).mono (by omega)
          | exact ((allGe M L _).caseP _ _).mono (by omega)
          | exact ((allGe M L _).consP _ _).mono (by omega)
          | exact ((allGe M L _).compP _ _).mono (by omega)
          | exact ((allGe M L _).sumP _ _).mono (by omega)
          | exact ((allGe M L _).sumL _ _ _).mono (by omega)
          | exact ((allGe M L _).termP _ _).mono (by omega)
          | exact ((allGe M L _).termL _ _ _).mono (by omega)
          | exact ((allGe M L _).unitP _ _).mono (by omega)
          | exact ((allGe M L _).namedP _ _).mono (by omega)
          | exact ((allGe M L _).wordedP _ _).mono (by omega)
          | exact ((allGe M L _).brackP _ _).mono (by omega)
          | exact ((allGe M L _).argsP _ _).mono (by omega)
          | exact ((allGe M L _).argsL _ _ _).mono (by omega)
          | refine Rs.Ge.bind ?_ fun _ _ _ => ?_
          | split))
      refine SR.bind hd (by omega) ((allGe M L _).exprP _ _) (ih.exprP _ _ (by omega)) (fun a a' k2 h2 g2 r2 => ?_) (by
        intro _ _ _
        repeat' (first
          | exact ge_ok _ (by omega)
          | exact ge_bad _ (by omega)
          | exact (ge_must M _ _).mono (by omega)
          | exact (ge_name M _).mono (by omega)
          | exact (ge_type M _).mono (by omega)
          | exact ((allGe M L _).exprP _ _).mono (by omega)
          | exact ((allGe M L _).bindP _ _ _).mono (by omega)
          | exact ((allGe M L _).ifP _ _).mono (by omega)
          | exact ((allGe M L _).caseP _ _).mono (by omega)
          | exact ((allGe M L _).consP _ _).mono (by omega)
          | exact ((allGe M L _).compP _ _).mono (by omega)
          | exact ((allGe M L _).sumP _ _).mono (by omega)
          | exact ((allGe M L _).sumL _ _ _).mono (by omega)
          | exact ((allGe M L _).termP _ _).mono (by omega)
          | exact ((allGe M L _).termL _ _ _).mono (by omega)
          | exact ((allGe M L _).unitP _ _).mono (by omega)
          | exact ((allGe M L _).namedP _ _).mono (by omega)
          | exact ((allGe M L _).wordedP _ _).mono (by omega)
          | exact ((allGe M L _).brackP _ _).mono (by omega)
          | exact ((allGe M L _).argsP _ _).mono (by omega)
          | exact ((allGe M L _).argsL _ _ _).mono (by omega)
          | refine Rs.Ge.bind ?_ fun _ _ _ => ?_
          | split))
      refine SR.bind hd (by omega) (ge_must M _ _) (sr_must M M' hd hM _ _ (by omega)) (fun _ _ k3 h3 g3 _ => ?_) (by
        intro _ _ _
        repeat' (first
          | exact ge_ok _ (by omega)
          | exact ge_bad _ (by omega)
          | exact (ge_must M _ _).mono (by omega)
          | exact (ge_name M _).mono (by omega)
          | exact (ge_type M _).mono (by omega)
          | exact ((allGe M L _).exprP _ _).mono (by omega)
          | exact ((allGe M L _).bindP _ _ _).mono (by omega)
          | exact ((allGe M L _).ifP _ _).mono (by omega)
          | exact ((allGe M L _).caseP _ _).mono (by omega)
          | exact ((allGe M L _).consP _ _).mono (by omega)
          | exact ((allGe M L _).compP _ _).mono (by omega)
          | exact ((allGe M L _).sumP _ _).mono (by omega)
          | exact ((allGe M L _).sumL _ _ _).mono (by omega)
          | exact ((allGe M L _).termP _ _).mono (by omega)
          | exact ((allGe M L _).termL _ _ _).mono (by omega)
          | exact ((allGe M L _).unitP _ _).mono (by omega)
          | exact ((allGe M L _).namedP _ _).mono (by omega)
          | exact ((allGe M L _).wordedP _ _).mono (by omega)
          | exact ((allGe M L _).brackP _ _).mono (by omega)
          | exact ((allGe M L _).argsP _ _).mono (by omega)
          | exact ((allGe M L _).argsL _ _ _).mono (by omega)
          | refine Rs.Ge.bind ?_ fun _ _ _ => ?_
          | split))
      exact SR.ok r2 rfl
    · intro d k hk
      refine SR.of_K hd hk ((allGe M L _).argsP _ _) fun hK => ?_
      rw [Proofs.YtkonkplalgoekaaGreatDoor.argsP, Proofs.YtkonkplalgoekaaGreatDoor.argsP]
      simp only [Nat.add_right_comm _ s 1]
      refine SR.ite (tk_iff M M' hM hk hK) (fun _ => SR.ok .nil rfl) fun _ => ?_
      refine SR.bind hd (by omega) ((allGe M L _).exprP _ _) (ih.exprP _ _ (by omega)) (fun a a' k1 h1 g1 r1 => ?_) (by
        intro _ _ _
        repeat' (first
          | exact ge_ok _ (by omega)
          | exact ge_bad _ (by omega)
          | exact (ge_must M _ _).mono (by omega)
          | exact (ge_name M _).mono (by omega)
          | exact (ge_type M _).mono (by omega)
          | exact ((allGe M L _).exprP _ _).mono (by omega)
          | exact ((allGe M L _).bindP _ _ _).mono (by omega)
          | exact ((allGe M L _).ifP _ _).mono (by omega)
          | exact ((allGe M L _).caseP _ _).mono (by omega)
          | exact ((allGe M L _).consP _ _).mono (by omega)
          | exact ((allGe M L _).compP _ _).mono (by omega)
          | exact ((allGe M L _).sumP _ _).mono (by omega)
          | exact ((allGe M L _).sumL _ _ _).mono (by omega)
          | exact ((allGe M L _).termP _ _).mono (by omega)
          | exact ((allGe M L _).termL _ _ _).mono (by omega)
          | exact ((allGe M L _).unitP _ _).mono (by omega)
          | exact ((allGe M L _).namedP _ _).mono (by omega)
          | exact ((allGe M L _).wordedP _ _).mono (by omega)
          | exact ((allGe M L _).brackP _ _).mono (by omega)
          | exact ((allGe M L _).argsP _ _).mono (by omega)
          | exact ((allGe M L _).argsL _ _ _).mono (by omega)
          | refine Rs.Ge.bind ?_ fun _ _ _ => ?_
          | split))
      exact ih.argsL _ _ _ _ (by omega) (.cons r1 .nil)
    · intro d a a' k hk ha
      refine SR.of_K hd hk ((allGe M L _).argsL _ _ _) fun hK => ?_
      rw [Proofs.YtkonkplalgoekaaGreatDoor.argsL, Proofs.YtkonkplalgoekaaGreatDoor.argsL]
      simp only [Nat.add_right_comm _ s 1]
      refine SR.ite (tk_iff M M' hM hk hK) (fun _ => ?_) fun _ => ?_
      · refine SR.bind hd (by omega) ((allGe M L _).exprP _ _) (ih.exprP _ _ (by omega)) (fun b b' k1 h1 g1 r1 => ?_) (by
          intro _ _ _
          repeat' (first
            | exact ge_ok _ (by omega)
            | exact ge_bad _ (by omega)
            | exact (ge_must M _ _).mono (by omega)
            | exact (ge_name M _).mono (by omega)
            | exact (ge_type M _).mono (by omega)
            | exact ((allGe M L _).exprP _ _).mono (by omega)
            | exact ((allGe M L _).bindP _ _ _).mono (by omega)
            | exact ((allGe M L _).ifP _ _).mono (by omega)
            | exact ((allGe M L _).caseP _ _).mono (by omega)
            | exact ((allGe M L _).consP _ _).mono (by omega)
            | exact ((allGe M L _).compP _ _).mono (by omega)
            | exact ((allGe M L _).sumP _ _).mono (by omega)
            | exact ((allGe M L _).sumL _ _ _).mono (by omega)
            | exact ((allGe M L _).termP _ _).mono (by omega)
            | exact ((allGe M L _).termL _ _ _).mono (by omega)
            | exact ((allGe M L _).unitP _ _).mono (by omega)
            | exact ((allGe M L _).namedP _ _).mono (by omega)
            | exact ((allGe M L _).wordedP _ _).mono (by omega)
            | exact ((allGe M L _).brackP _ _).mono (by omega)
            | exact ((allGe M L _).argsP _ _).mono (by omega)
            | exact ((allGe M L _).argsL _ _ _).mono (by omega)
            | refine Rs.Ge.bind ?_ fun _ _ _ => ?_
            | split))
        exact ih.argsL _ _ _ _ (by omega) (ha.snoc r1)
      · refine SR.bind hd (by omega) (ge_must M _ _) (sr_must M M' hd hM _ _ (by omega)) (fun _ _ k1 h1 g1 _ => ?_) (by
          intro _ _ _
          repeat' (first
            | exact ge_ok _ (by omega)
            | exact ge_bad _ (by omega)
            | exact (ge_must M _ _).mono (by omega)
            | exact (ge_name M _).mono (by omega)
            | exact (ge_type M _).mono (by omega)
            | exact ((allGe M L _).exprP _ _).mono (by omega)
            | exact ((allGe M L _).bindP _ _ _).mono (by omega)
            | exact ((allGe M L _).ifP _ _).mono (by omega)
            | exact ((allGe M L _).caseP _ _).mono (by omega)
            | exact ((allGe M L _).consP _ _).mono (by omega)
            | exact ((allGe M L _).compP _ _).mono (by omega)
            | exact ((allGe M L _).sumP _ _).mono (by omega)
            | exact ((allGe M L _).sumL _ _ _).mono (by omega)
            | exact ((allGe M L _).termP _ _).mono (by omega)
            | exact ((allGe M L _).termL _ _ _).mono (by omega)
            | exact ((allGe M L _).unitP _ _).mono (by omega)
            | exact ((allGe M L _).namedP _ _).mono (by omega)
            | exact ((allGe M L _).wordedP _ _).mono (by omega)
            | exact ((allGe M L _).brackP _ _).mono (by omega)
            | exact ((allGe M L _).argsP _ _).mono (by omega)
            | exact ((allGe M L _).argsL _ _ _).mono (by omega)
            | refine Rs.Ge.bind ?_ fun _ _ _ => ?_
            | split))
        exact SR.ok ha rfl

theorem sr_param (n k : Nat) (hk : k0 ≤ k) : SR (PmR ρ) K s (paramP M L n k) (paramP M' L n (k + s)) := by
  unfold paramP
  refine SR.bind hd hk (ge_nameOf M _ _ _) (sr_nameOf M M' hd hM _ _ _ hk) (fun x x' k1 h1 g1 r1 => ?_) (fun _ _ h => ?_)
  · refine SR.bind hd (lo := k1) (by omega) (ge_type M _) (sr_type M M' hd hM _ (by omega)) (fun t t' k2 h2 g2 r2 => ?_) (fun _ _ h => ge_ok _ (Nat.le_refl _))
    exact SR.ok ⟨r1.text.symm, r2.symm, r1.at_⟩ rfl
  · exact (ge_type M _).bind fun _ _ h => ge_ok _ h
theorem sr_paramsL : ∀ f acc acc' k, k0 ≤ k → LiR (PmR ρ) acc acc' → SR (LiR (PmR ρ)) K s (paramsL M L f acc k) (paramsL M' L f acc' (k + s)) := by
  intro f
  induction f with
  | zero => intros; exact trivial
  | succ f ih =>
    intro acc acc' k hk ha
    refine SR.of_K hd hk (ge_paramsL M L _ _ _) fun hK => ?_
    rw [paramsL, paramsL]
    simp only [Nat.add_right_comm _ s 1]
    refine SR.ite (tk_iff M M' hM hk hK) (fun _ => ?_) fun _ => ?_
    · rw [← ha.length]
      refine SR.bind hd (lo := k + 1) (by omega) (ge_param M L _ _) (sr_param M M' L hd hM _ _ (by omega)) (fun x x' k1 h1 g1 r1 => ?_) (fun _ _ h => ge_paramsL M L _ _ _)
      exact ih _ _ _ (by omega) (ha.snoc r1)
    · refine SR.bind hd hk (ge_must M _ _) (sr_must M M' hd hM _ _ hk) (fun _ _ k1 h1 g1 _ => ?_) (fun _ _ h => ge_ok _ (Nat.le_refl _))
      exact SR.ok ha rfl
theorem sr_params (f k : Nat) (hk : k0 ≤ k) : SR (LiR (PmR ρ)) K s (paramsP M L f k) (paramsP M' L f (k + s)) := by
  unfold paramsP
  refine SR.bind hd hk (ge_must M _ _) (sr_must M M' hd hM _ _ hk) (fun _ _ k1 h1 g1 _ => ?_) (fun _ j h => ?_)
  · simp only [Nat.add_right_comm _ s 1]
    refine SR.ite (tk_iff M M' hM (by omega) g1) (fun _ => SR.ok .nil rfl) fun _ => ?_
    refine SR.bind hd (lo := k1) (by omega) (ge_param M L _ _) (sr_param M M' L hd hM _ _ (by omega)) (fun x x' k2 h2 g2 r2 => ?_) (fun _ _ h => ge_paramsL M L _ _ _)
    exact sr_paramsL M M' L hd hM _ _ _ _ (by omega) (.cons r2 .nil)
  · split
    · exact ge_ok _ (by omega)
    · exact (ge_param M L _ _).bind fun _ _ h => (ge_paramsL M L _ _ _).mono h
theorem sr_def (f n k : Nat) (hk : k0 ≤ k) : SR (FnR ρ) K s (defP M L f n k) (defP M' L f n (k + s)) := by
  unfold defP
  refine SR.bind hd hk (ge_nameOf M _ _ _) (sr_nameOf M M' hd hM _ _ _ hk) (fun x x' k1 h1 g1 r1 => ?_) (fun _ _ h => ?_)
  · refine SR.bind hd (lo := k1) (by omega) (ge_params M L _ _) (sr_params M M' L hd hM _ _ (by omega)) (fun ps ps' k2 h2 g2 r2 => ?_) (fun _ _ h => ?_)
    · refine SR.bind hd (lo := k2) (by omega) (ge_must M _ _) (sr_must M M' hd hM _ _ (by omega)) (fun _ _ k3 h3 g3 _ => ?_) (fun _ _ h => ?_)
      · refine SR.bind hd (lo := k3) (by omega) (ge_type M _) (sr_type M M' hd hM _ (by omega)) (fun t t' k4 h4 g4 r4 => ?_) (fun _ _ h => ?_)
        · refine SR.bind hd (lo := k4) (by omega) (ge_must M _ _) (sr_must M M' hd hM _ _ (by omega)) (fun _ _ k5 h5 g5 _ => ?_) (fun _ _ h => ?_)
          · refine SR.bind hd (lo := k5) (by omega) ((allGe M L _).exprP _ _) ((allSR M M' L hd hM _).exprP _ _ (by omega)) (fun b b' k6 h6 g6 r6 => ?_) (fun _ _ h => ?_)
            · refine SR.bind hd (lo := k6) (by omega) (ge_must M _ _) (sr_must M M' hd hM _ _ (by omega)) (fun _ _ k7 h7 g7 _ => ?_) (fun _ _ h => ge_ok _ (Nat.le_refl _))
              exact SR.ok ⟨r1.text.symm, r2, r4.symm, r6, r1.at_⟩ rfl
            · exact (ge_must M _ _).bind fun _ _ h => ge_ok _ h
          · exact ((allGe M L _).exprP _ _).bind fun _ _ h => ((ge_must M _ _).mono h).bind fun _ _ h => ge_ok _ h
        · exact (ge_must M _ _).bind fun _ _ h => (((allGe M L _).exprP _ _).mono h).bind fun _ _ h => ((ge_must M _ _).mono h).bind fun _ _ h => ge_ok _ h
      · exact (ge_type M _).bind fun _ _ h => ((ge_must M _ _).mono h).bind fun _ _ h => (((allGe M L _).exprP _ _).mono h).bind fun _ _ h => ((ge_must M _ _).mono h).bind fun _ _ h => ge_ok _ h
    · exact (ge_must M _ _).bind fun _ _ h => ((ge_type M _).mono h).bind fun _ _ h => ((ge_must M _ _).mono h).bind fun _ _ h => (((allGe M L _).exprP _ _).mono h).bind fun _ _ h => ((ge_must M _ _).mono h).bind fun _ _ h => ge_ok _ h
  · exact (ge_params M L _ _).bind fun _ _ h => ((ge_must M _ _).mono h).bind fun _ _ h => ((ge_type M _).mono h).bind fun _ _ h => ((ge_must M _ _).mono h).bind fun _ _ h => (((allGe M L _).exprP _ _).mono h).bind fun _ _ h => ((ge_must M _ _).mono h).bind fun _ _ h => ge_ok _ h
end
end Go.Proofs.YtkonkplalgoekaaGreatDoor
