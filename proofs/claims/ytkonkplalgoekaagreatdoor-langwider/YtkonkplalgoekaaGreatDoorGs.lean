/-
  Which faults the plain parser tells, and where; whole programs of two rows of marks that agree so far.
-/
import Derived.Test.YtkonkplalgoekaaGreatDoorGr
namespace Go.Proofs.YtkonkplalgoekaaGreatDoor
set_option maxHeartbeats 1000000

/-- A fault is of the grammar, or of a limit, and then not at the end. -/
def Rs.Fk {α : Type} (M : Nat → Mk) : Rs α → Prop
  | .ok _ _ => True
  | .bad y k => y = 21 ∨ ((y = 22 ∨ y = 23) ∧ (M k).kind ≠ 4)
  | .out => True

theorem Rs.Fk.bind {α β : Type} {M : Nat → Mk} {r : Rs α} {g : α → Nat → Rs β} (h : r.Fk M) (hg : ∀ a j, (g a j).Fk M) : (r.bind g).Fk M := by
  cases r with
  | ok a j => exact hg a j
  | bad y j => exact h
  | out => trivial

section
variable (M : Nat → Mk) (L : Lm) (hT : ∀ k, (M k).kind = 4 → (M k).text = [])

theorem fk_ok {α : Type} (a : α) (k : Nat) : (Rs.ok a k).Fk M := trivial
theorem fk_21 {α : Type} (k : Nat) : (Rs.bad (α := α) 21 k).Fk M := .inl rfl
theorem fk_must (s : List UInt8) (k : Nat) : (mustP M s k).Fk M := by
  unfold mustP; split
  · trivial
  · exact .inl rfl
theorem fk_name (k : Nat) : (nameP M k).Fk M := by
  unfold nameP; split
  · trivial
  · exact .inl rfl
theorem fk_nameOf (n : Nat) (m : Int) (k : Nat) : (nameOfP M n m k).Fk M := by
  unfold nameOfP; split
  · rename_i h
    refine .inr ⟨.inl rfl, ?_⟩
    rw [h.2]; decide
  · exact fk_name M k
theorem fk_type (k : Nat) : (typeP M k).Fk M := by
  unfold typeP
  repeat' split
  all_goals first | exact trivial | exact .inl rfl
include hT
theorem tk_kind {s : List UInt8} {k : Nat} (h : tk M s k = true) (hs : s ≠ []) : (M k).kind ≠ 4 := by
  intro e
  have := hT k e
  unfold tk at h
  rw [this, beq_iff_eq] at h
  exact hs h.symm
omit hT

structure AllFk (f : Nat) : Prop where
  exprP : ∀ (d : Nat) (k : Nat), (Proofs.YtkonkplalgoekaaGreatDoor.exprP M L f d k).Fk M
  bindP : ∀ (op : Int) (d : Nat) (k : Nat), (M k).kind ≠ 4 → (Proofs.YtkonkplalgoekaaGreatDoor.bindP M L f op d k).Fk M
  ifP : ∀ (d : Nat) (k : Nat), (Proofs.YtkonkplalgoekaaGreatDoor.ifP M L f d k).Fk M
  caseP : ∀ (d : Nat) (k : Nat), (M k).kind ≠ 4 → (Proofs.YtkonkplalgoekaaGreatDoor.caseP M L f d k).Fk M
  consP : ∀ (d : Nat) (k : Nat), (Proofs.YtkonkplalgoekaaGreatDoor.consP M L f d k).Fk M
  compP : ∀ (d : Nat) (k : Nat), (Proofs.YtkonkplalgoekaaGreatDoor.compP M L f d k).Fk M
  sumP : ∀ (d : Nat) (k : Nat), (Proofs.YtkonkplalgoekaaGreatDoor.sumP M L f d k).Fk M
  sumL : ∀ (d : Nat) (a : Ex) (k : Nat), (Proofs.YtkonkplalgoekaaGreatDoor.sumL M L f d a k).Fk M
  termP : ∀ (d : Nat) (k : Nat), (Proofs.YtkonkplalgoekaaGreatDoor.termP M L f d k).Fk M
  termL : ∀ (d : Nat) (a : Ex) (k : Nat), (Proofs.YtkonkplalgoekaaGreatDoor.termL M L f d a k).Fk M
  unitP : ∀ (d : Nat) (k : Nat), (Proofs.YtkonkplalgoekaaGreatDoor.unitP M L f d k).Fk M
  namedP : ∀ (d : Nat) (k : Nat), (Proofs.YtkonkplalgoekaaGreatDoor.namedP M L f d k).Fk M
  wordedP : ∀ (d : Nat) (k : Nat), (Proofs.YtkonkplalgoekaaGreatDoor.wordedP M L f d k).Fk M
  brackP : ∀ (d : Nat) (k : Nat), (Proofs.YtkonkplalgoekaaGreatDoor.brackP M L f d k).Fk M
  argsP : ∀ (d : Nat) (k : Nat), (Proofs.YtkonkplalgoekaaGreatDoor.argsP M L f d k).Fk M
  argsL : ∀ (d : Nat) (acc : List Ex) (k : Nat), (Proofs.YtkonkplalgoekaaGreatDoor.argsL M L f d acc k).Fk M

include hT
theorem allFk : ∀ f, AllFk M L f := by
  intro f
  induction f with
  | zero =>
    constructor
    all_goals
      intros
      first
      | (rw [Proofs.YtkonkplalgoekaaGreatDoor.exprP]; exact trivial)
      | (rw [Proofs.YtkonkplalgoekaaGreatDoor.bindP]; exact trivial)
      | (rw [Proofs.YtkonkplalgoekaaGreatDoor.ifP]; exact trivial)
      | (rw [Proofs.YtkonkplalgoekaaGreatDoor.caseP]; exact trivial)
      | (rw [Proofs.YtkonkplalgoekaaGreatDoor.consP]; exact trivial)
      | (rw [Proofs.YtkonkplalgoekaaGreatDoor.compP]; exact trivial)
      | (rw [Proofs.YtkonkplalgoekaaGreatDoor.sumP]; exact trivial)
      | (rw [Proofs.YtkonkplalgoekaaGreatDoor.sumL]; exact trivial)
      | (rw [Proofs.YtkonkplalgoekaaGreatDoor.termP]; exact trivial)
      | (rw [Proofs.YtkonkplalgoekaaGreatDoor.termL]; exact trivial)
      | (rw [Proofs.YtkonkplalgoekaaGreatDoor.unitP]; exact trivial)
      | (rw [Proofs.YtkonkplalgoekaaGreatDoor.namedP]; exact trivial)
      | (rw [Proofs.YtkonkplalgoekaaGreatDoor.wordedP]; exact trivial)
      | (rw [Proofs.YtkonkplalgoekaaGreatDoor.brackP]; exact trivial)
      | (rw [Proofs.YtkonkplalgoekaaGreatDoor.argsP]; exact trivial)
      | (rw [Proofs.YtkonkplalgoekaaGreatDoor.argsL]; exact trivial)
  | succ f ih =>
    constructor
    all_goals
      intros
      first
      | rw [Proofs.YtkonkplalgoekaaGreatDoor.exprP]
      | rw [Proofs.YtkonkplalgoekaaGreatDoor.bindP]
      | rw [Proofs.YtkonkplalgoekaaGreatDoor.ifP]
      | rw [Proofs.YtkonkplalgoekaaGreatDoor.caseP]
      | rw [Proofs.YtkonkplalgoekaaGreatDoor.consP]
      | rw [Proofs.YtkonkplalgoekaaGreatDoor.compP]
      | rw [Proofs.YtkonkplalgoekaaGreatDoor.sumP]
      | rw [Proofs.YtkonkplalgoekaaGreatDoor.sumL]
      | rw [Proofs.YtkonkplalgoekaaGreatDoor.termP]
      | rw [Proofs.YtkonkplalgoekaaGreatDoor.termL]
      | rw [Proofs.YtkonkplalgoekaaGreatDoor.unitP]
      | rw [Proofs.YtkonkplalgoekaaGreatDoor.namedP]
      | rw [Proofs.YtkonkplalgoekaaGreatDoor.wordedP]
      | rw [Proofs.YtkonkplalgoekaaGreatDoor.brackP]
      | rw [Proofs.YtkonkplalgoekaaGreatDoor.argsP]
      | rw [Proofs.YtkonkplalgoekaaGreatDoor.argsL]
    all_goals
      repeat' (first
      | exact trivial
      | exact fk_21 M _
      | exact .inr ⟨.inr rfl, ‹_›⟩
      | exact fk_must M _ _
      | exact fk_name M _
      | exact fk_type M _
      | exact ih.exprP _ _
      | exact ih.bindP _ _ _ (tk_kind M hT ‹_› (by decide))
      | exact ih.ifP _ _
      | exact ih.caseP _ _ (tk_kind M hT ‹_› (by decide))
      | exact ih.consP _ _
      | exact ih.compP _ _
      | exact ih.sumP _ _
      | exact ih.sumL _ _ _
      | exact ih.termP _ _
      | exact ih.termL _ _ _
      | exact ih.unitP _ _
      | exact ih.namedP _ _
      | exact ih.wordedP _ _
      | exact ih.brackP _ _
      | exact ih.argsP _ _
      | exact ih.argsL _ _ _
      | refine Rs.Fk.bind ?_ fun _ _ => ?_
      | split)
omit hT

theorem fk_param (n k : Nat) : (paramP M L n k).Fk M := by
  unfold paramP
  exact (fk_nameOf M _ _ _).bind fun _ _ => (fk_type M _).bind fun _ _ => trivial
theorem fk_paramsL : ∀ f acc k, (paramsL M L f acc k).Fk M := by
  intro f
  induction f with
  | zero => intros; trivial
  | succ f ih =>
    intro acc k
    rw [paramsL]
    split
    · exact (fk_param M L _ _).bind fun _ _ => ih _ _
    · exact (fk_must M _ _).bind fun _ _ => trivial
theorem fk_params (f k : Nat) : (paramsP M L f k).Fk M := by
  unfold paramsP
  refine (fk_must M _ _).bind fun _ _ => ?_
  split
  · trivial
  · exact (fk_param M L _ _).bind fun _ _ => fk_paramsL M L _ _ _
include hT
theorem fk_def (f n k : Nat) : (defP M L f n k).Fk M := by
  unfold defP
  exact (fk_nameOf M _ _ _).bind fun _ _ => (fk_params M L _ _).bind fun _ _ => (fk_must M _ _).bind fun _ _ => (fk_type M _).bind fun _ _ => (fk_must M _ _).bind fun _ _ =>
    ((allFk M L hT _).exprP _ _).bind fun _ _ => (fk_must M _ _).bind fun _ _ => trivial
theorem fk_prog : ∀ f acc k, (progL M L f acc k).Fk M := by
  intro f
  induction f with
  | zero => intros; trivial
  | succ f ih =>
    intro acc k
    rw [progL]
    refine (fk_def M L hT _ _ _).bind fun _ _ => ?_
    split
    · trivial
    · exact ih _ _
end

section
variable {ρ : Nat → Nat → Prop} {K : Nat → Prop} {k0 s : Nat} (M M' : Nat → Mk) (L : Lm) (hd : ∀ i j, k0 ≤ i → i ≤ j → K j → K i) (hM : ∀ k, k0 ≤ k → K k → MR ρ (M k) (M' (k + s)))
include hd hM

theorem sr_prog : ∀ f acc acc' k, k0 ≤ k → LiR (FnR ρ) acc acc' → SR (LiR (FnR ρ)) K s (progL M L f acc k) (progL M' L f acc' (k + s)) := by
  intro f
  induction f with
  | zero => intros; exact trivial
  | succ f ih =>
    intro acc acc' k hk ha
    rw [progL, progL, ← ha.length]
    refine SR.bind hd hk (ge_def M L _ _ _) (sr_def M M' L hd hM _ _ _ hk) (fun g g' k1 h1 hK r1 => ?_) (fun _ j h => ?_)
    · refine SR.ite (kd_iff M M' hM (by omega) hK) (fun _ => SR.ok (ha.snoc r1) rfl) fun _ => ?_
      exact ih _ _ _ (by omega) (ha.snoc r1)
    · split
      · exact ge_ok _ (Nat.le_refl _)
      · exact ge_prog M L _ _ _
end
end Go.Proofs.YtkonkplalgoekaaGreatDoor
