/-
  What holds of the plain parser: positions never go back; with fuel enough it comes to an end ahead of the last mark; and it hangs on the marks alone that it has come to.
-/
import Derived.Test.YtkonkplalgoekaaGreatDoorGp
namespace Go.Proofs.YtkonkplalgoekaaGreatDoor
set_option maxHeartbeats 1000000

/-! ## Positions -/
def Rs.Ge {α : Type} (k : Nat) : Rs α → Prop
  | .ok _ j => k ≤ j
  | .bad _ j => k ≤ j
  | .out => True

theorem Rs.Ge.bind {α β : Type} {k : Nat} {r : Rs α} {g : α → Nat → Rs β} (h : r.Ge k) (hg : ∀ a j, k ≤ j → (g a j).Ge k) : (r.bind g).Ge k := by
  cases r with
  | ok a j => exact hg a j h
  | bad y j => exact h
  | out => trivial
theorem Rs.Ge.mono {α : Type} {k k' : Nat} {r : Rs α} (h : r.Ge k) (hk : k' ≤ k) : r.Ge k' := by
  cases r with
  | ok a j => exact Nat.le_trans hk h
  | bad y j => exact Nat.le_trans hk h
  | out => trivial
theorem ge_ok {α : Type} {k j : Nat} (a : α) (h : k ≤ j) : (Rs.ok a j).Ge k := h
theorem ge_bad {α : Type} {k j : Nat} (y : Int) (h : k ≤ j) : (Rs.bad (α := α) y j).Ge k := h

section
variable (M : Nat → Mk) (L : Lm)

theorem ge_must (s : List UInt8) (k : Nat) : (mustP M s k).Ge k := by unfold mustP; split <;> simp [Rs.Ge]
theorem ge_name (k : Nat) : (nameP M k).Ge k := by unfold nameP; split <;> simp [Rs.Ge]
theorem ge_nameOf (n : Nat) (m : Int) (k : Nat) : (nameOfP M n m k).Ge k := by
  unfold nameOfP
  split
  · simp [Rs.Ge]
  · exact ge_name M k
theorem ge_type (k : Nat) : (typeP M k).Ge k := by
  unfold typeP
  repeat' split
  all_goals simp [Rs.Ge]

structure AllGe (f : Nat) : Prop where
  exprP : ∀ (d : Nat) (k : Nat), (Proofs.YtkonkplalgoekaaGreatDoor.exprP M L f d k).Ge k
  bindP : ∀ (op : Int) (d : Nat) (k : Nat), (Proofs.YtkonkplalgoekaaGreatDoor.bindP M L f op d k).Ge k
  ifP : ∀ (d : Nat) (k : Nat), (Proofs.YtkonkplalgoekaaGreatDoor.ifP M L f d k).Ge k
  caseP : ∀ (d : Nat) (k : Nat), (Proofs.YtkonkplalgoekaaGreatDoor.caseP M L f d k).Ge k
  consP : ∀ (d : Nat) (k : Nat), (Proofs.YtkonkplalgoekaaGreatDoor.consP M L f d k).Ge k
  compP : ∀ (d : Nat) (k : Nat), (Proofs.YtkonkplalgoekaaGreatDoor.compP M L f d k).Ge k
  sumP : ∀ (d : Nat) (k : Nat), (Proofs.YtkonkplalgoekaaGreatDoor.sumP M L f d k).Ge k
  sumL : ∀ (d : Nat) (a : Ex) (k : Nat), (Proofs.YtkonkplalgoekaaGreatDoor.sumL M L f d a k).Ge k
  termP : ∀ (d : Nat) (k : Nat), (Proofs.YtkonkplalgoekaaGreatDoor.termP M L f d k).Ge k
  termL : ∀ (d : Nat) (a : Ex) (k : Nat), (Proofs.YtkonkplalgoekaaGreatDoor.termL M L f d a k).Ge k
  unitP : ∀ (d : Nat) (k : Nat), (Proofs.YtkonkplalgoekaaGreatDoor.unitP M L f d k).Ge k
  namedP : ∀ (d : Nat) (k : Nat), (Proofs.YtkonkplalgoekaaGreatDoor.namedP M L f d k).Ge k
  wordedP : ∀ (d : Nat) (k : Nat), (Proofs.YtkonkplalgoekaaGreatDoor.wordedP M L f d k).Ge k
  brackP : ∀ (d : Nat) (k : Nat), (Proofs.YtkonkplalgoekaaGreatDoor.brackP M L f d k).Ge k
  argsP : ∀ (d : Nat) (k : Nat), (Proofs.YtkonkplalgoekaaGreatDoor.argsP M L f d k).Ge k
  argsL : ∀ (d : Nat) (acc : List Ex) (k : Nat), (Proofs.YtkonkplalgoekaaGreatDoor.argsL M L f d acc k).Ge k

theorem allGe : ∀ f, AllGe M L f := by
  intro f
  induction f with
  | zero =>
    constructor
    all_goals
      intros
      first
      | (rw [Proofs.YtkonkplalgoekaaGreatDoor.exprP]; exact trivial)
      | (rw [Proofs.YtkonkplalgoekaaGreatDoor.bindP]; exact trivial)
      | (rw [Proofs.YtkonkplalgoekaaGreatDoor.ifP]; exact trivial)
      | (rw [Proofs.YtkonkplalgoekaaGreatDoor.caseP]; exact trivial)
      | (rw [Proofs.YtkonkplalgoekaaGreatDoor.consP]; exact trivial)
      | (rw [Proofs.YtkonkplalgoekaaGreatDoor.compP]; exact trivial)
      | (rw [Proofs.YtkonkplalgoekaaGreatDoor.sumP]; exact trivial)
      | (rw [Proofs.YtkonkplalgoekaaGreatDoor.sumL]; exact trivial)
      | (rw [Proofs.YtkonkplalgoekaaGreatDoor.termP]; exact trivial)
      | (rw [Proofs.YtkonkplalgoekaaGreatDoor.termL]; exact trivial)
      | (rw [Proofs.YtkonkplalgoekaaGreatDoor.unitP]; exact trivial)
      | (rw [Proofs.YtkonkplalgoekaaGreatDoor.namedP]; exact trivial)
      | (rw [Proofs.YtkonkplalgoekaaGreatDoor.wordedP]; exact trivial)
      | (rw [Proofs.YtkonkplalgoekaaGreatDoor.brackP]; exact trivial)
      | (rw [Proofs.YtkonkplalgoekaaGreatDoor.argsP]; exact trivial)
      | (rw [Proofs.YtkonkplalgoekaaGreatDoor.argsL]; exact trivial)
  | succ f ih =>
    constructor
    all_goals
      intros
      first
      | rw [Proofs.YtkonkplalgoekaaGreatDoor.exprP]
      | rw [Proofs.YtkonkplalgoekaaGreatDoor.bindP]
      | rw [Proofs.YtkonkplalgoekaaGreatDoor.ifP]
      | rw [Proofs.YtkonkplalgoekaaGreatDoor.caseP]
      | rw [Proofs.YtkonkplalgoekaaGreatDoor.consP]
      | rw [Proofs.YtkonkplalgoekaaGreatDoor.compP]
      | rw [Proofs.YtkonkplalgoekaaGreatDoor.sumP]
      | rw [Proofs.YtkonkplalgoekaaGreatDoor.sumL]
      | rw [Proofs.YtkonkplalgoekaaGreatDoor.termP]
      | rw [Proofs.YtkonkplalgoekaaGreatDoor.termL]
      | rw [Proofs.YtkonkplalgoekaaGreatDoor.unitP]
      | rw [Proofs.YtkonkplalgoekaaGreatDoor.namedP]
      | rw [Proofs.YtkonkplalgoekaaGreatDoor.wordedP]
      | rw [Proofs.YtkonkplalgoekaaGreatDoor.brackP]
      | rw [Proofs.YtkonkplalgoekaaGreatDoor.argsP]
      | rw [Proofs.YtkonkplalgoekaaGreatDoor.argsL]
    all_goals
      repeat' (first
      | exact ge_ok _ (by omega)
      | exact ge_bad _ (by omega)
      | exact (ge_must M _ _).mono (by omega)
      | exact (ge_name M _).mono (by omega)
      | exact (ge_type M _).mono (by omega)
      | exact (ih.exprP _ _).mono (by omega)
      | exact (ih.bindP _ _ _).mono (by omega)
      | exact (ih.ifP _ _).mono (by omega)
      | exact (ih.caseP _ _).mono (by omega)
      | exact (ih.consP _ _).mono (by omega)
      | exact (ih.compP _ _).mono (by omega)
      | exact (ih.sumP _ _).mono (by omega)
      | exact (ih.sumL _ _ _).mono (by omega)
      | exact (ih.termP _ _).mono (by omega)
      | exact (ih.termL _ _ _).mono (by omega)
      | exact (ih.unitP _ _).mono (by omega)
      | exact (ih.namedP _ _).mono (by omega)
      | exact (ih.wordedP _ _).mono (by omega)
      | exact (ih.brackP _ _).mono (by omega)
      | exact (ih.argsP _ _).mono (by omega)
      | exact (ih.argsL _ _ _).mono (by omega)
      | refine Rs.Ge.bind ?_ fun _ _ _ => ?_
      | split)

theorem ge_param (n k : Nat) : (paramP M L n k).Ge k := by
  unfold paramP
  exact (ge_nameOf M _ _ _).bind fun _ _ h => ((ge_type M _).mono h).bind fun _ _ h => ge_ok _ h
theorem ge_paramsL : ∀ f acc k, (paramsL M L f acc k).Ge k := by
  intro f
  induction f with
  | zero => intros; trivial
  | succ f ih =>
    intro acc k
    rw [paramsL]
    split
    · exact ((ge_param M L _ _).mono (by omega)).bind fun _ _ h => (ih _ _).mono h
    · exact (ge_must M _ _).bind fun _ _ h => ge_ok _ h
theorem ge_params (f k : Nat) : (paramsP M L f k).Ge k := by
  unfold paramsP
  refine (ge_must M _ _).bind fun _ _ h => ?_
  split
  · exact ge_ok _ (by omega)
  · exact ((ge_param M L _ _).mono h).bind fun _ _ h => (ge_paramsL M L _ _ _).mono h
theorem ge_def (f n k : Nat) : (defP M L f n k).Ge k := by
  unfold defP
  exact (ge_nameOf M _ _ _).bind fun _ _ h => ((ge_params M L _ _).mono h).bind fun _ _ h => ((ge_must M _ _).mono h).bind fun _ _ h => ((ge_type M _).mono h).bind fun _ _ h => ((ge_must M _ _).mono h).bind fun _ _ h =>
    (((allGe M L _).exprP _ _).mono h).bind fun _ _ h => ((ge_must M _ _).mono h).bind fun _ _ h => ge_ok _ h
theorem ge_prog : ∀ f acc k, (progL M L f acc k).Ge k := by
  intro f
  induction f with
  | zero => intros; trivial
  | succ f ih =>
    intro acc k
    rw [progL]
    refine (ge_def M L _ _ _).bind fun _ _ h => ?_
    split
    · exact ge_ok _ h
    · exact (ih _ _).mono h
end

/-! ## Fuel enough -/
/-- It ends ahead of n: at lo or behind, or with a fault. -/
def Rs.Gd {α : Type} (lo n : Nat) : Rs α → Prop
  | .ok _ j => lo ≤ j ∧ j < n
  | .bad _ j => j < n
  | .out => False

theorem Rs.Gd.bind {α β : Type} {lo lo' n : Nat} {r : Rs α} {g : α → Nat → Rs β} (h : r.Gd lo n) (hg : ∀ a j, lo ≤ j → j < n → (g a j).Gd lo' n) : (r.bind g).Gd lo' n := by
  cases r with
  | ok a j => exact hg a j h.1 h.2
  | bad y j => exact h
  | out => exact h
theorem Rs.Gd.mono {α : Type} {lo lo' n : Nat} {r : Rs α} (h : r.Gd lo n) (hk : lo' ≤ lo) : r.Gd lo' n := by
  cases r with
  | ok a j => exact ⟨Nat.le_trans hk h.1, h.2⟩
  | bad y j => exact h
  | out => exact h
theorem gd_ok {α : Type} {lo n j : Nat} (a : α) (h : lo ≤ j) (hn : j < n) : (Rs.ok a j).Gd lo n := ⟨h, hn⟩
theorem gd_bad {α : Type} {lo n j : Nat} (y : Int) (h : j < n) : (Rs.bad (α := α) y j).Gd lo n := h

section
variable (M : Nat → Mk) (L : Lm) {n : Nat}

/-- The last of n marks is the end's, and nothing goes on behind it. -/
def Ends (n : Nat) : Prop := ∀ k, k < n → (M k).text ≠ [] ∨ ((M k).kind ≠ 4) → k + 1 < n

theorem Ends.tk (hE : Ends M n) {s : List UInt8} {k : Nat} (h : tk M s k = true) (hs : s ≠ []) (hk : k < n) : k + 1 < n := by
  unfold Proofs.YtkonkplalgoekaaGreatDoor.tk at h
  refine hE k hk (.inl ?_)
  rw [beq_iff_eq.1 h]
  exact hs
theorem Ends.kd (hE : Ends M n) {y : Int} {k : Nat} (h : (M k).kind = y) (hs : y ≠ 4) (hk : k < n) : k + 1 < n := hE k hk (.inr (by rw [h]; exact hs))

theorem gd_must (hE : Ends M n) (s : List UInt8) (hs : s ≠ []) (k : Nat) (hk : k < n) : (mustP M s k).Gd (k + 1) n := by
  unfold mustP
  split
  · exact gd_ok _ (Nat.le_refl _) (hE.tk M ‹_› hs hk)
  · exact hk
theorem gd_name (hE : Ends M n) (k : Nat) (hk : k < n) : (nameP M k).Gd (k + 1) n := by
  unfold nameP
  split
  · exact gd_ok _ (Nat.le_refl _) (hE.kd M ‹_› (by decide) hk)
  · exact hk
theorem gd_nameOf (hE : Ends M n) (y : Nat) (m : Int) (k : Nat) (hk : k < n) : (nameOfP M y m k).Gd (k + 1) n := by
  unfold nameOfP
  split
  · exact hk
  · exact gd_name M hE k hk
theorem gd_type (hE : Ends M n) (k : Nat) (hk : k < n) : (typeP M k).Gd (k + 1) n := by
  unfold typeP
  repeat' split
  · exact gd_ok _ (Nat.le_refl _) (hE.tk M ‹_› (by simp) hk)
  · exact gd_ok _ (Nat.le_refl _) (hE.tk M ‹_› (by simp) hk)
  · exact gd_ok _ (Nat.le_refl _) (hE.tk M ‹_› (by simp) hk)
  · exact hk

structure AllGd (n f : Nat) : Prop where
  exprP : ∀ (d : Nat) (k : Nat), k < n → 12 * (n - k) + 8 ≤ f → (Proofs.YtkonkplalgoekaaGreatDoor.exprP M L f d k).Gd (k + 1) n
  bindP : ∀ (op : Int) (d : Nat) (k : Nat), k + 1 < n → 12 * (n - k) + 7 ≤ f → (Proofs.YtkonkplalgoekaaGreatDoor.bindP M L f op d k).Gd (k + 1) n
  ifP : ∀ (d : Nat) (k : Nat), k + 1 < n → 12 * (n - k) + 7 ≤ f → (Proofs.YtkonkplalgoekaaGreatDoor.ifP M L f d k).Gd (k + 1) n
  caseP : ∀ (d : Nat) (k : Nat), k + 1 < n → 12 * (n - k) + 7 ≤ f → (Proofs.YtkonkplalgoekaaGreatDoor.caseP M L f d k).Gd (k + 1) n
  consP : ∀ (d : Nat) (k : Nat), k < n → 12 * (n - k) + 7 ≤ f → (Proofs.YtkonkplalgoekaaGreatDoor.consP M L f d k).Gd (k + 1) n
  compP : ∀ (d : Nat) (k : Nat), k < n → 12 * (n - k) + 6 ≤ f → (Proofs.YtkonkplalgoekaaGreatDoor.compP M L f d k).Gd (k + 1) n
  sumP : ∀ (d : Nat) (k : Nat), k < n → 12 * (n - k) + 5 ≤ f → (Proofs.YtkonkplalgoekaaGreatDoor.sumP M L f d k).Gd (k + 1) n
  sumL : ∀ (d : Nat) (a : Ex) (k : Nat), k < n → 12 * (n - k) + 5 ≤ f → (Proofs.YtkonkplalgoekaaGreatDoor.sumL M L f d a k).Gd k n
  termP : ∀ (d : Nat) (k : Nat), k < n → 12 * (n - k) + 4 ≤ f → (Proofs.YtkonkplalgoekaaGreatDoor.termP M L f d k).Gd (k + 1) n
  termL : ∀ (d : Nat) (a : Ex) (k : Nat), k < n → 12 * (n - k) + 4 ≤ f → (Proofs.YtkonkplalgoekaaGreatDoor.termL M L f d a k).Gd k n
  unitP : ∀ (d : Nat) (k : Nat), k < n → 12 * (n - k) + 3 ≤ f → (Proofs.YtkonkplalgoekaaGreatDoor.unitP M L f d k).Gd (k + 1) n
  namedP : ∀ (d : Nat) (k : Nat), k + 1 < n → 12 * (n - k) + 2 ≤ f → (Proofs.YtkonkplalgoekaaGreatDoor.namedP M L f d k).Gd (k + 1) n
  wordedP : ∀ (d : Nat) (k : Nat), k + 1 < n → 12 * (n - k) + 2 ≤ f → (Proofs.YtkonkplalgoekaaGreatDoor.wordedP M L f d k).Gd (k + 1) n
  brackP : ∀ (d : Nat) (k : Nat), k < n → 12 * (n - k) + 2 ≤ f → (Proofs.YtkonkplalgoekaaGreatDoor.brackP M L f d k).Gd (k + 1) n
  argsP : ∀ (d : Nat) (k : Nat), k < n → 12 * (n - k) + 9 ≤ f → (Proofs.YtkonkplalgoekaaGreatDoor.argsP M L f d k).Gd (k + 1) n
  argsL : ∀ (d : Nat) (acc : List Ex) (k : Nat), k < n → 12 * (n - k) + 9 ≤ f → (Proofs.YtkonkplalgoekaaGreatDoor.argsL M L f d acc k).Gd (k + 1) n

theorem allGd (hE : Ends M n) : ∀ f, AllGd M L n f := by
  intro f
  induction f with
  | zero => constructor <;> intros <;> omega
  | succ f ih =>
    constructor
    all_goals
      intros
      first
      | rw [Proofs.YtkonkplalgoekaaGreatDoor.exprP]
      | rw [Proofs.YtkonkplalgoekaaGreatDoor.bindP]
      | rw [Proofs.YtkonkplalgoekaaGreatDoor.ifP]
      | rw [Proofs.YtkonkplalgoekaaGreatDoor.caseP]
      | rw [Proofs.YtkonkplalgoekaaGreatDoor.consP]
      | rw [Proofs.YtkonkplalgoekaaGreatDoor.compP]
      | rw [Proofs.YtkonkplalgoekaaGreatDoor.sumP]
      | rw [Proofs.YtkonkplalgoekaaGreatDoor.sumL]
      | rw [Proofs.YtkonkplalgoekaaGreatDoor.termP]
      | rw [Proofs.YtkonkplalgoekaaGreatDoor.termL]
      | rw [Proofs.YtkonkplalgoekaaGreatDoor.unitP]
      | rw [Proofs.YtkonkplalgoekaaGreatDoor.namedP]
      | rw [Proofs.YtkonkplalgoekaaGreatDoor.wordedP]
      | rw [Proofs.YtkonkplalgoekaaGreatDoor.brackP]
      | rw [Proofs.YtkonkplalgoekaaGreatDoor.argsP]
      | rw [Proofs.YtkonkplalgoekaaGreatDoor.argsL]
    all_goals
      repeat' (first
      | exact gd_bad _ (by omega)
      | exact gd_ok _ (by omega) (by omega)
      | exact (gd_must M hE _ (by decide) _ (by omega)).mono (by omega)
      | exact (gd_name M hE _ (by omega)).mono (by omega)
      | exact (gd_type M hE _ (by omega)).mono (by omega)
      | exact (ih.exprP _ _ (by omega) (by omega)).mono (by omega)
      | exact (ih.bindP _ _ _ (by omega) (by omega)).mono (by omega)
      | exact (ih.ifP _ _ (by omega) (by omega)).mono (by omega)
      | exact (ih.caseP _ _ (by omega) (by omega)).mono (by omega)
      | exact (ih.consP _ _ (by omega) (by omega)).mono (by omega)
      | exact (ih.compP _ _ (by omega) (by omega)).mono (by omega)
      | exact (ih.sumP _ _ (by omega) (by omega)).mono (by omega)
      | exact (ih.sumL _ _ _ (by omega) (by omega)).mono (by omega)
      | exact (ih.termP _ _ (by omega) (by omega)).mono (by omega)
      | exact (ih.termL _ _ _ (by omega) (by omega)).mono (by omega)
      | exact (ih.unitP _ _ (by omega) (by omega)).mono (by omega)
      | exact (ih.namedP _ _ (by omega) (by omega)).mono (by omega)
      | exact (ih.wordedP _ _ (by omega) (by omega)).mono (by omega)
      | exact (ih.brackP _ _ (by omega) (by omega)).mono (by omega)
      | exact (ih.argsP _ _ (by omega) (by omega)).mono (by omega)
      | exact (ih.argsL _ _ _ (by omega) (by omega)).mono (by omega)
      | refine Rs.Gd.bind (lo := _ + 1) (gd_must M hE _ (by decide) _ (by omega)) fun _ _ _ _ => ?_
      | refine Rs.Gd.bind (gd_name M hE _ (by omega)) fun _ _ _ _ => ?_
      | refine Rs.Gd.bind (gd_type M hE _ (by omega)) fun _ _ _ _ => ?_
      | refine Rs.Gd.bind (ih.exprP _ _ (by omega) (by omega)) fun _ _ _ _ => ?_
      | refine Rs.Gd.bind (ih.bindP _ _ _ (by omega) (by omega)) fun _ _ _ _ => ?_
      | refine Rs.Gd.bind (ih.ifP _ _ (by omega) (by omega)) fun _ _ _ _ => ?_
      | refine Rs.Gd.bind (ih.caseP _ _ (by omega) (by omega)) fun _ _ _ _ => ?_
      | refine Rs.Gd.bind (ih.consP _ _ (by omega) (by omega)) fun _ _ _ _ => ?_
      | refine Rs.Gd.bind (ih.compP _ _ (by omega) (by omega)) fun _ _ _ _ => ?_
      | refine Rs.Gd.bind (ih.sumP _ _ (by omega) (by omega)) fun _ _ _ _ => ?_
      | refine Rs.Gd.bind (ih.sumL _ _ _ (by omega) (by omega)) fun _ _ _ _ => ?_
      | refine Rs.Gd.bind (ih.termP _ _ (by omega) (by omega)) fun _ _ _ _ => ?_
      | refine Rs.Gd.bind (ih.termL _ _ _ (by omega) (by omega)) fun _ _ _ _ => ?_
      | refine Rs.Gd.bind (ih.unitP _ _ (by omega) (by omega)) fun _ _ _ _ => ?_
      | refine Rs.Gd.bind (ih.namedP _ _ (by omega) (by omega)) fun _ _ _ _ => ?_
      | refine Rs.Gd.bind (ih.wordedP _ _ (by omega) (by omega)) fun _ _ _ _ => ?_
      | refine Rs.Gd.bind (ih.brackP _ _ (by omega) (by omega)) fun _ _ _ _ => ?_
      | refine Rs.Gd.bind (ih.argsP _ _ (by omega) (by omega)) fun _ _ _ _ => ?_
      | refine Rs.Gd.bind (ih.argsL _ _ _ (by omega) (by omega)) fun _ _ _ _ => ?_
      | (split <;> (try (have hp1 := hE.tk M ‹tk M _ _ = true› (by decide) (by omega))) <;> (try (have hp2 := hE.kd M ‹(M _).kind = _› (by decide) (by omega)))))

theorem gd_param (hE : Ends M n) (y k : Nat) (hk : k < n) : (paramP M L y k).Gd (k + 1) n := by
  unfold paramP
  exact (gd_nameOf M hE _ _ _ hk).bind fun _ _ h h' => (gd_type M hE _ h').bind fun _ _ h2 h3 => gd_ok _ (by omega) h3
theorem gd_paramsL (hE : Ends M n) : ∀ f acc k, k < n → n - k < f → (paramsL M L f acc k).Gd (k + 1) n := by
  intro f
  induction f with
  | zero => intros; omega
  | succ f ih =>
    intro acc k hk hf
    rw [paramsL]
    split
    · have := hE.tk M ‹_› (by simp) hk
      exact (gd_param M L hE _ _ this).bind fun _ _ h h' => (ih _ _ h' (by omega)).mono (by omega)
    · exact (gd_must M hE _ (by simp) _ hk).bind fun _ _ h h' => gd_ok _ h h'
theorem gd_params (hE : Ends M n) (f k : Nat) (hk : k < n) (hf : n - k < f) : (paramsP M L f k).Gd (k + 1) n := by
  unfold paramsP
  refine (gd_must M hE _ (by simp) _ hk).bind fun _ _ h h' => ?_
  split
  · exact gd_ok _ (by omega) (hE.tk M ‹_› (by simp) h')
  · exact (gd_param M L hE _ _ h').bind fun _ _ h2 h3 => (gd_paramsL M L hE _ _ _ h3 (by omega)).mono (by omega)
theorem gd_def (hE : Ends M n) (f y k : Nat) (hk : k < n) (hf : 12 * (n - k) + 8 ≤ f) : (defP M L f y k).Gd (k + 1) n := by
  unfold defP
  refine (gd_nameOf M hE _ _ _ hk).bind fun _ _ h1 g1 => ?_
  refine (gd_params M L hE _ _ g1 (by omega)).bind fun _ _ h2 g2 => ?_
  refine (gd_must M hE _ (by simp) _ g2).bind fun _ _ h3 g3 => ?_
  refine (gd_type M hE _ g3).bind fun _ _ h4 g4 => ?_
  refine (gd_must M hE _ (by simp) _ g4).bind fun _ _ h5 g5 => ?_
  refine ((allGd M L hE _).exprP _ _ g5 (by omega)).bind fun _ _ h6 g6 => ?_
  refine (gd_must M hE _ (by simp) _ g6).bind fun _ _ h7 g7 => ?_
  exact gd_ok _ (by omega) g7
theorem gd_prog (hE : Ends M n) : ∀ f acc k, k < n → 12 * (n - k) + 9 ≤ f → (progL M L f acc k).Gd (k + 1) n := by
  intro f
  induction f with
  | zero => intros; omega
  | succ f ih =>
    intro acc k hk hf
    rw [progL]
    refine (gd_def M L hE _ _ _ hk (by omega)).bind fun _ _ h h' => ?_
    split
    · exact gd_ok _ h h'
    · exact (ih _ _ h' (by omega)).mono (by omega)
end
end Go.Proofs.YtkonkplalgoekaaGreatDoor
