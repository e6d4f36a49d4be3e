/-
  Limits do just what they say: what is parsed under some limits is parsed the same under others that it fits, and else they tell a fault of their own.
-/
import Derived.Test.YtkonkplalgoekaaGreatDoorGv
namespace Go.Proofs.YtkonkplalgoekaaGreatDoor
set_option maxHeartbeats 2000000

mutual
/-- The greatest nesting in an expression. -/
def nE : Ex → Nat
  | .mk op _ _ _ _ _ ps _ => nL ps + (if op = 20 ∨ op = 21 ∨ op = 22 then 1 else 0)
def nL : List Ex → Nat
  | [] => 0
  | x :: xs => max (nE x) (nL xs)
end

theorem nL_snoc : ∀ (xs : List Ex) (x : Ex), nL (xs ++ [x]) = max (nL xs) (nE x)
  | [], x => by simp [nL]
  | y :: xs, x => by simp only [List.cons_append, nL, nL_snoc xs x]; omega

theorem bind_eq {α β : Type} {r : Rs α} {g : α → Nat → Rs β} {b : β} {k : Nat} : r.bind g = .ok b k ↔ ∃ a j, r = .ok a j ∧ g a j = .ok b k := by
  cases r with
  | ok a j => simp only [Rs.bind, Rs.ok.injEq]; exact ⟨fun h => ⟨a, j, ⟨rfl, rfl⟩, h⟩, fun ⟨_, _, ⟨h1, h2⟩, h⟩ => by subst h1 h2; exact h⟩
  | bad y j => simp [Rs.bind]
  | out => simp [Rs.bind]
theorem bind_eq_ok {α β : Type} {r : Rs α} {g : α → Nat → Rs β} {a : α} {j : Nat} (h : r = .ok a j) : r.bind g = g a j := by rw [h]; rfl
theorem bind_eq_bad {α β : Type} {r : Rs α} {g : α → Nat → Rs β} {y : Int} {j : Nat} (h : r = .bad y j) : r.bind g = .bad y j := by rw [h]; rfl

section
variable (M : Nat → Mk) (L L' : Lm)

/-- A nesting n at the depth d fits. -/
def Ft (d n : Nat) : Prop := n = 0 ∨ (d : Int) + n ≤ L'.n

/-- What is parsed under L fits L' and is parsed the same there, or it does not, and a fault of the nesting is told. -/
def LR {α : Type} (sz : α → Nat) (d : Nat) (q q' : Rs α) : Prop := ∀ a k, q = .ok a k → (Ft L' d (sz a) ∧ q' = .ok a k) ∨ (¬ Ft L' d (sz a) ∧ ∃ j, q' = .bad 23 j)

structure AllLR (f : Nat) : Prop where
  exprP : ∀ (d : Nat) (k : Nat), LR L' nE d (Proofs.YtkonkplalgoekaaGreatDoor.exprP M L f d k) (Proofs.YtkonkplalgoekaaGreatDoor.exprP M L' f d k)
  bindP : ∀ (op : Int) (d : Nat) (k : Nat), op = 21 ∨ op = 22 → LR L' nE d (Proofs.YtkonkplalgoekaaGreatDoor.bindP M L f op d k) (Proofs.YtkonkplalgoekaaGreatDoor.bindP M L' f op d k)
  ifP : ∀ (d : Nat) (k : Nat), LR L' nE d (Proofs.YtkonkplalgoekaaGreatDoor.ifP M L f d k) (Proofs.YtkonkplalgoekaaGreatDoor.ifP M L' f d k)
  caseP : ∀ (d : Nat) (k : Nat), LR L' nE d (Proofs.YtkonkplalgoekaaGreatDoor.caseP M L f d k) (Proofs.YtkonkplalgoekaaGreatDoor.caseP M L' f d k)
  consP : ∀ (d : Nat) (k : Nat), LR L' nE d (Proofs.YtkonkplalgoekaaGreatDoor.consP M L f d k) (Proofs.YtkonkplalgoekaaGreatDoor.consP M L' f d k)
  compP : ∀ (d : Nat) (k : Nat), LR L' nE d (Proofs.YtkonkplalgoekaaGreatDoor.compP M L f d k) (Proofs.YtkonkplalgoekaaGreatDoor.compP M L' f d k)
  sumP : ∀ (d : Nat) (k : Nat), LR L' nE d (Proofs.YtkonkplalgoekaaGreatDoor.sumP M L f d k) (Proofs.YtkonkplalgoekaaGreatDoor.sumP M L' f d k)
  sumL : ∀ (d : Nat) (a : Ex) (k : Nat), Ft L' d (nE a) → LR L' nE d (Proofs.YtkonkplalgoekaaGreatDoor.sumL M L f d a k) (Proofs.YtkonkplalgoekaaGreatDoor.sumL M L' f d a k)
  sumLn : ∀ (d : Nat) (a : Ex) (k : Nat) (e : Ex) (j : Nat), Proofs.YtkonkplalgoekaaGreatDoor.sumL M L f d a k = .ok e j → nE a ≤ nE e
  termP : ∀ (d : Nat) (k : Nat), LR L' nE d (Proofs.YtkonkplalgoekaaGreatDoor.termP M L f d k) (Proofs.YtkonkplalgoekaaGreatDoor.termP M L' f d k)
  termL : ∀ (d : Nat) (a : Ex) (k : Nat), Ft L' d (nE a) → LR L' nE d (Proofs.YtkonkplalgoekaaGreatDoor.termL M L f d a k) (Proofs.YtkonkplalgoekaaGreatDoor.termL M L' f d a k)
  termLn : ∀ (d : Nat) (a : Ex) (k : Nat) (e : Ex) (j : Nat), Proofs.YtkonkplalgoekaaGreatDoor.termL M L f d a k = .ok e j → nE a ≤ nE e
  unitP : ∀ (d : Nat) (k : Nat), LR L' nE d (Proofs.YtkonkplalgoekaaGreatDoor.unitP M L f d k) (Proofs.YtkonkplalgoekaaGreatDoor.unitP M L' f d k)
  namedP : ∀ (d : Nat) (k : Nat), LR L' nE d (Proofs.YtkonkplalgoekaaGreatDoor.namedP M L f d k) (Proofs.YtkonkplalgoekaaGreatDoor.namedP M L' f d k)
  wordedP : ∀ (d : Nat) (k : Nat), LR L' nE d (Proofs.YtkonkplalgoekaaGreatDoor.wordedP M L f d k) (Proofs.YtkonkplalgoekaaGreatDoor.wordedP M L' f d k)
  brackP : ∀ (d : Nat) (k : Nat), LR L' nE d (Proofs.YtkonkplalgoekaaGreatDoor.brackP M L f d k) (Proofs.YtkonkplalgoekaaGreatDoor.brackP M L' f d k)
  argsP : ∀ (d : Nat) (k : Nat), LR L' nL d (Proofs.YtkonkplalgoekaaGreatDoor.argsP M L f d k) (Proofs.YtkonkplalgoekaaGreatDoor.argsP M L' f d k)
  argsL : ∀ (d : Nat) (acc : List Ex) (k : Nat), Ft L' d (nL acc) → LR L' nL d (Proofs.YtkonkplalgoekaaGreatDoor.argsL M L f d acc k) (Proofs.YtkonkplalgoekaaGreatDoor.argsL M L' f d acc k)
  argsLn : ∀ (d : Nat) (acc : List Ex) (k : Nat) (e : List Ex) (j : Nat), Proofs.YtkonkplalgoekaaGreatDoor.argsL M L f d acc k = .ok e j → nL acc ≤ nL e

theorem nE_mk (op : Int) (a b : List UInt8) (t p q : Int) (ps : List Ex) (at_ : Nat) : nE (.mk op a b t p q ps at_) = nL ps + (if op = 20 ∨ op = 21 ∨ op = 22 then 1 else 0) := by rw [nE]
theorem nL_nil : nL [] = 0 := by rw [nL]
theorem nL_cons (x : Ex) (xs : List Ex) : nL (x :: xs) = max (nE x) (nL xs) := by rw [nL]
theorem nE_two (op : Int) (a b : Ex) (m : Mk) (h : ¬ (op = 20 ∨ op = 21 ∨ op = 22)) : nE (two op a b m) = max (nE a) (nE b) := by
  unfold two
  rw [nE_mk, if_neg h, nL_cons, nL_cons, nL_nil]
  omega

theorem LR.ok {α : Type} {sz : α → Nat} {d k : Nat} {a : α} (h : Ft L' d (sz a)) : LR L' sz d (.ok a k) (.ok a k) := by
  intro b j e
  cases e
  exact .inl ⟨h, rfl⟩
theorem LR.ite {α : Type} {sz : α → Nat} {d : Nat} {c : Prop} [Decidable c] {x y x' y' : Rs α} (h1 : c → LR L' sz d x x') (h2 : ¬ c → LR L' sz d y y') : LR L' sz d (if c then x else y) (if c then x' else y') := by
  by_cases h : c
  · rw [if_pos h, if_pos h]; exact h1 h
  · rw [if_neg h, if_neg h]; exact h2 h
/-- A part that knows no limits. -/
theorem LR.free {α β : Type} {sz : β → Nat} {d : Nat} {q : Rs α} {g g' : α → Nat → Rs β} (h : ∀ a k, q = .ok a k → LR L' sz d (g a k) (g' a k)) : LR L' sz d (q.bind g) (q.bind g') := by
  intro b j e
  obtain ⟨a, i, e1, e2⟩ := bind_eq.1 e
  rw [bind_eq_ok e1]
  exact h a i e1 b j e2
/-- A part with a nesting of its own: all that it comes to must hold it. -/
theorem LR.part {α β : Type} {sz : β → Nat} {sa : α → Nat} {d da : Nat} {q q' : Rs α} {g g' : α → Nat → Rs β} (hq : LR L' sa da q q') (h : ∀ a k, q = .ok a k → Ft L' da (sa a) → LR L' sz d (g a k) (g' a k))
    (hs : ∀ a k b j, q = .ok a k → g a k = .ok b j → Ft L' d (sz b) → Ft L' da (sa a)) : LR L' sz d (q.bind g) (q'.bind g') := by
  intro b j e
  obtain ⟨a, i, e1, e2⟩ := bind_eq.1 e
  rcases hq a i e1 with ⟨f1, f2⟩ | ⟨f1, y, f2⟩
  · rw [bind_eq_ok f2]
    exact h a i e1 f1 b j e2
  · rw [bind_eq_bad f2]
    exact .inr ⟨fun hb => f1 (hs a i b j e1 e2 hb), y, rfl⟩

theorem Ft.max {d a b : Nat} (h1 : Ft L' d a) (h2 : Ft L' d b) : Ft L' d (max a b) := by
  unfold Ft at *
  rcases Nat.le_total a b with h | h
  · rw [Nat.max_eq_right h]; exact h2
  · rw [Nat.max_eq_left h]; exact h1
theorem Ft.le {d a b : Nat} (h : Ft L' d b) (hl : a ≤ b) : Ft L' d a := by
  unfold Ft at *
  rcases h with h | h
  · left; omega
  · right; omega
theorem Ft.in1 {d a : Nat} (h : Ft L' (d + 1) a) (hd : (d : Int) + 1 ≤ L'.n) : Ft L' d (a + 1) := by
  unfold Ft at *
  right
  rcases h with h | h
  · subst h; omega
  · omega
theorem Ft.out1 {d a : Nat} (h : Ft L' d (a + 1)) : Ft L' (d + 1) a := by
  unfold Ft at *
  rcases h with h | h
  · omega
  · right; omega

theorem allLR : ∀ f, AllLR M L L' f := by
  intro f
  induction f with
  | zero =>
    constructor
    all_goals
      intros
      intros
      first
      | (rename_i e; rw [Proofs.YtkonkplalgoekaaGreatDoor.exprP] at e; cases e)
      | (rename_i e; rw [Proofs.YtkonkplalgoekaaGreatDoor.bindP] at e; cases e)
      | (rename_i e; rw [Proofs.YtkonkplalgoekaaGreatDoor.ifP] at e; cases e)
      | (rename_i e; rw [Proofs.YtkonkplalgoekaaGreatDoor.caseP] at e; cases e)
      | (rename_i e; rw [Proofs.YtkonkplalgoekaaGreatDoor.consP] at e; cases e)
      | (rename_i e; rw [Proofs.YtkonkplalgoekaaGreatDoor.compP] at e; cases e)
      | (rename_i e; rw [Proofs.YtkonkplalgoekaaGreatDoor.sumP] at e; cases e)
      | (rename_i e; rw [Proofs.YtkonkplalgoekaaGreatDoor.sumL] at e; cases e)
      | (rename_i e; rw [Proofs.YtkonkplalgoekaaGreatDoor.termP] at e; cases e)
      | (rename_i e; rw [Proofs.YtkonkplalgoekaaGreatDoor.termL] at e; cases e)
      | (rename_i e; rw [Proofs.YtkonkplalgoekaaGreatDoor.unitP] at e; cases e)
      | (rename_i e; rw [Proofs.YtkonkplalgoekaaGreatDoor.namedP] at e; cases e)
      | (rename_i e; rw [Proofs.YtkonkplalgoekaaGreatDoor.wordedP] at e; cases e)
      | (rename_i e; rw [Proofs.YtkonkplalgoekaaGreatDoor.brackP] at e; cases e)
      | (rename_i e; rw [Proofs.YtkonkplalgoekaaGreatDoor.argsP] at e; cases e)
      | (rename_i e; rw [Proofs.YtkonkplalgoekaaGreatDoor.argsL] at e; cases e)
      | (intro _ _ e; rw [Proofs.YtkonkplalgoekaaGreatDoor.exprP] at e; cases e)
      | (intro _ _ e; rw [Proofs.YtkonkplalgoekaaGreatDoor.bindP] at e; cases e)
      | (intro _ _ e; rw [Proofs.YtkonkplalgoekaaGreatDoor.ifP] at e; cases e)
      | (intro _ _ e; rw [Proofs.YtkonkplalgoekaaGreatDoor.caseP] at e; cases e)
      | (intro _ _ e; rw [Proofs.YtkonkplalgoekaaGreatDoor.consP] at e; cases e)
      | (intro _ _ e; rw [Proofs.YtkonkplalgoekaaGreatDoor.compP] at e; cases e)
      | (intro _ _ e; rw [Proofs.YtkonkplalgoekaaGreatDoor.sumP] at e; cases e)
      | (intro _ _ e; rw [Proofs.YtkonkplalgoekaaGreatDoor.sumL] at e; cases e)
      | (intro _ _ e; rw [Proofs.YtkonkplalgoekaaGreatDoor.termP] at e; cases e)
      | (intro _ _ e; rw [Proofs.YtkonkplalgoekaaGreatDoor.termL] at e; cases e)
      | (intro _ _ e; rw [Proofs.YtkonkplalgoekaaGreatDoor.unitP] at e; cases e)
      | (intro _ _ e; rw [Proofs.YtkonkplalgoekaaGreatDoor.namedP] at e; cases e)
      | (intro _ _ e; rw [Proofs.YtkonkplalgoekaaGreatDoor.wordedP] at e; cases e)
      | (intro _ _ e; rw [Proofs.YtkonkplalgoekaaGreatDoor.brackP] at e; cases e)
      | (intro _ _ e; rw [Proofs.YtkonkplalgoekaaGreatDoor.argsP] at e; cases e)
      | (intro _ _ e; rw [Proofs.YtkonkplalgoekaaGreatDoor.argsL] at e; cases e)
  | succ f ih =>
    have hs : ∀ d a k e j, sumL M L f d a k = .ok e j → nE a ≤ nE e := ih.sumLn
    have ht : ∀ d a k e j, termL M L f d a k = .ok e j → nE a ≤ nE e := ih.termLn
    have hA : ∀ d a k e j, argsL M L f d a k = .ok e j → nL a ≤ nL e := ih.argsLn
    constructor
    · intro d k
      rw [exprP, exprP]
      refine LR.ite L' (fun _ => ih.bindP _ _ _ (.inl rfl)) fun _ => LR.ite L' (fun _ => ih.bindP _ _ _ (.inr rfl)) fun _ => LR.ite L' (fun _ => ih.ifP _ _) fun _ => LR.ite L' (fun _ => ih.caseP _ _) fun _ => ih.consP _ _
    · intro op d k hop
      have hop' : op = 20 ∨ op = 21 ∨ op = 22 := .inr hop
      rw [bindP, bindP]
      intro e j h
      by_cases hL : L.n ≤ d
      · rw [if_pos hL] at h; cases h
      · rw [if_neg hL] at h
        have hge : ∀ e j, (nameP M (k + 1)).bind (fun x k1 => (typeP M k1).bind fun t k2 => (mustP M [61] k2).bind fun _ k3 => (exprP M L f (d + 1) k3).bind fun a k4 => (mustP M tIn k4).bind fun _ k5 => (exprP M L f (d + 1) k5).bind fun b k6 => .ok (.mk op x.text [] t 0 0 [a, b] (M k).at_) k6) = .ok e j → 1 ≤ nE e := by
          intro e j h
          simp only [bind_eq] at h
          obtain ⟨_, _, _, _, _, _, _, _, _, _, _, _, _, _, _, _, _, _, h⟩ := h
          cases h
          rw [nE_mk, if_pos hop']; omega
        by_cases hL' : L'.n ≤ d
        · rw [if_pos hL']
          have := hge e j h
          exact .inr ⟨by unfold Ft; omega, k, rfl⟩
        · rw [if_neg hL']
          revert e j
          refine LR.free L' fun x k1 _ => LR.free L' fun t k2 _ => LR.free L' fun _ k3 _ => LR.part L' (ih.exprP _ _) (fun a k4 _ fa => LR.free L' fun _ k5 _ => LR.part L' (ih.exprP _ _) (fun b k6 _ fb => LR.ok L' ?_) ?_) ?_
          · rw [nE_mk, if_pos hop', nL_cons, nL_cons, nL_nil, Nat.max_zero]
            exact Ft.in1 L' (Ft.max L' fa fb) (by omega)
          · intro b k6 e j _ h hf
            cases h
            rw [nE_mk, if_pos hop', nL_cons, nL_cons, nL_nil] at hf
            exact Ft.le L' (Ft.out1 L' hf) (by omega)
          · intro a k4 e j _ h hf
            simp only [bind_eq] at h
            obtain ⟨_, _, _, b, _, _, h⟩ := h
            cases h
            rw [nE_mk, if_pos hop', nL_cons, nL_cons, nL_nil] at hf
            exact Ft.le L' (Ft.out1 L' hf) (by omega)
    · intro d k
      rw [ifP, ifP]
      refine LR.part L' (ih.exprP _ _) (fun a k1 _ fa => LR.free L' fun _ k2 _ => LR.part L' (ih.exprP _ _) (fun b k3 _ fb => LR.free L' fun _ k4 _ => LR.part L' (ih.exprP _ _) (fun c k5 _ fc => LR.ok L' ?_) ?_) ?_) ?_
      · rw [nE_mk, if_neg (by decide), nL_cons, nL_cons, nL_cons, nL_nil, Nat.max_zero]
        exact Ft.max L' fa (Ft.max L' fb fc)
      · intro c _ e j _ h hf
        cases h
        rw [nE_mk, if_neg (by decide), nL_cons, nL_cons, nL_cons, nL_nil] at hf
        exact Ft.le L' hf (by omega)
      · intro b _ e j _ h hf
        simp only [bind_eq] at h
        obtain ⟨_, _, _, c, _, _, h⟩ := h
        cases h
        rw [nE_mk, if_neg (by decide), nL_cons, nL_cons, nL_cons, nL_nil] at hf
        exact Ft.le L' hf (by omega)
      · intro a _ e j _ h hf
        simp only [bind_eq] at h
        obtain ⟨_, _, _, b, _, _, _, _, _, c, _, _, h⟩ := h
        cases h
        rw [nE_mk, if_neg (by decide), nL_cons, nL_cons, nL_cons, nL_nil] at hf
        exact Ft.le L' hf (by omega)
    · intro d k
      rw [caseP, caseP]
      intro e j h
      by_cases hL : L.n ≤ d
      · rw [if_pos hL] at h; cases h
      · rw [if_neg hL] at h
        by_cases hL' : L'.n ≤ d
        · rw [if_pos hL']
          have : 1 ≤ nE e := by
            simp only [bind_eq] at h
            obtain ⟨_, _, _, _, _, _, _, _, _, _, _, _, _, _, _, _, _, _, _, _, _, _, _, _, _, _, _, _, _, _, _, _, _, h⟩ := h
            cases h
            rw [nE_mk, if_pos (.inl rfl)]; omega
          exact .inr ⟨by unfold Ft; omega, k, rfl⟩
        · rw [if_neg hL']
          revert e j
          refine LR.part L' (ih.exprP _ _) (fun a k1 _ fa => LR.free L' fun _ k2 _ => LR.free L' fun _ k3 _ => LR.free L' fun _ k4 _ => LR.part L' (ih.exprP _ _) (fun b k5 _ fb => LR.free L' fun _ k6 _ => LR.free L' fun h k7 _ => LR.free L' fun _ k8 _ => LR.free L' fun t k9 _ => LR.free L' fun _ k10 _ =>
            LR.part L' (ih.exprP _ _) (fun c k11 _ fc => LR.ok L' ?_) ?_) ?_) ?_
          · rw [nE_mk, if_pos (.inl rfl), nL_cons, nL_cons, nL_cons, nL_nil, Nat.max_zero]
            exact Ft.in1 L' (Ft.max L' fa (Ft.max L' fb fc)) (by omega)
          · intro c _ e j _ h hf
            cases h
            rw [nE_mk, if_pos (.inl rfl), nL_cons, nL_cons, nL_cons, nL_nil] at hf
            exact Ft.le L' (Ft.out1 L' hf) (by omega)
          · intro b _ e j _ h hf
            simp only [bind_eq] at h
            obtain ⟨_, _, _, _, _, _, _, _, _, _, _, _, _, _, _, c, _, _, h⟩ := h
            cases h
            rw [nE_mk, if_pos (.inl rfl), nL_cons, nL_cons, nL_cons, nL_nil] at hf
            exact Ft.le L' (Ft.out1 L' hf) (by omega)
          · intro a _ e j _ h hf
            simp only [bind_eq] at h
            obtain ⟨_, _, _, _, _, _, _, _, _, b, _, _, _, _, _, _, _, _, _, _, _, _, _, _, _, _, _, c, _, _, h⟩ := h
            cases h
            rw [nE_mk, if_pos (.inl rfl), nL_cons, nL_cons, nL_cons, nL_nil] at hf
            exact Ft.le L' (Ft.out1 L' hf) (by omega)
    · intro d k
      rw [consP, consP]
      refine LR.part L' (ih.compP _ _) (fun a k1 _ fa => LR.ite L' (fun _ => LR.part L' (ih.consP _ _) (fun b k2 _ fb => LR.ok L' ?_) ?_) fun _ => LR.ok L' fa) ?_
      · rw [nE_two _ _ _ _ (by decide)]; exact Ft.max L' fa fb
      · intro b _ e j _ h hf
        cases h
        rw [nE_two _ _ _ _ (by decide)] at hf
        exact Ft.le L' hf (by omega)
      · intro a k1 e j _ h hf
        split at h
        · simp only [bind_eq] at h
          obtain ⟨b, _, _, h⟩ := h
          cases h
          rw [nE_two _ _ _ _ (by decide)] at hf
          exact Ft.le L' hf (by omega)
        · cases h; exact hf
    · intro d k
      rw [compP, compP]
      refine LR.part L' (ih.sumP _ _) (fun a k1 _ fa => LR.ite L' (fun _ => LR.part L' (ih.sumP _ _) (fun b k2 _ fb => LR.ok L' ?_) ?_) fun _ => LR.ite L' (fun _ => LR.part L' (ih.sumP _ _) (fun b k2 _ fb => LR.ok L' ?_) ?_) fun _ => LR.ok L' fa) ?_
      · rw [nE_two _ _ _ _ (by decide)]; exact Ft.max L' fa fb
      · intro b _ e j _ h hf
        cases h
        rw [nE_two _ _ _ _ (by decide)] at hf
        exact Ft.le L' hf (by omega)
      · rw [nE_two _ _ _ _ (by decide)]; exact Ft.max L' fa fb
      · intro b _ e j _ h hf
        cases h
        rw [nE_two _ _ _ _ (by decide)] at hf
        exact Ft.le L' hf (by omega)
      · intro a k1 e j _ h hf
        split at h
        · simp only [bind_eq] at h
          obtain ⟨b, _, _, h⟩ := h
          cases h
          rw [nE_two _ _ _ _ (by decide)] at hf
          exact Ft.le L' hf (by omega)
        · split at h
          · simp only [bind_eq] at h
            obtain ⟨b, _, _, h⟩ := h
            cases h
            rw [nE_two _ _ _ _ (by decide)] at hf
            exact Ft.le L' hf (by omega)
          · cases h; exact hf
    · intro d k
      rw [sumP, sumP]
      refine LR.part L' (ih.termP _ _) (fun a k1 _ fa => ih.sumL _ _ _ fa) ?_
      intro a k1 e j _ h hf
      exact Ft.le L' hf (hs _ _ _ _ _ h)
    · intro d a k fa
      rw [sumL, sumL]
      refine LR.ite L' (fun _ => LR.part L' (ih.termP _ _) (fun b k1 _ fb => ih.sumL _ _ _ ?_) ?_) fun _ => LR.ite L' (fun _ => LR.part L' (ih.termP _ _) (fun b k1 _ fb => ih.sumL _ _ _ ?_) ?_) fun _ => LR.ok L' fa
      · rw [nE_two _ _ _ _ (by decide)]; exact Ft.max L' fa fb
      · intro b _ e j _ h hf
        have := hs _ _ _ _ _ h
        rw [nE_two _ _ _ _ (by decide)] at this
        exact Ft.le L' hf (by omega)
      · rw [nE_two _ _ _ _ (by decide)]; exact Ft.max L' fa fb
      · intro b _ e j _ h hf
        have := hs _ _ _ _ _ h
        rw [nE_two _ _ _ _ (by decide)] at this
        exact Ft.le L' hf (by omega)
    · intro d a k e j h
      rw [sumL] at h
      split at h
      · obtain ⟨b, _, _, h⟩ := bind_eq.1 h
        have := hs _ _ _ _ _ h
        rw [nE_two _ _ _ _ (by decide)] at this
        omega
      · split at h
        · obtain ⟨b, _, _, h⟩ := bind_eq.1 h
          have := hs _ _ _ _ _ h
          rw [nE_two _ _ _ _ (by decide)] at this
          omega
        · cases h; exact Nat.le_refl _
    · intro d k
      rw [termP, termP]
      refine LR.part L' (ih.unitP _ _) (fun a k1 _ fa => ih.termL _ _ _ fa) ?_
      intro a k1 e j _ h hf
      exact Ft.le L' hf (ht _ _ _ _ _ h)
    · intro d a k fa
      rw [termL, termL]
      refine LR.ite L' (fun _ => LR.part L' (ih.unitP _ _) (fun b k1 _ fb => ih.termL _ _ _ ?_) ?_) fun _ => LR.ite L' (fun _ => LR.part L' (ih.unitP _ _) (fun b k1 _ fb => ih.termL _ _ _ ?_) ?_) fun _ => LR.ok L' fa
      · rw [nE_two _ _ _ _ (by decide)]; exact Ft.max L' fa fb
      · intro b _ e j _ h hf
        have := ht _ _ _ _ _ h
        rw [nE_two _ _ _ _ (by decide)] at this
        exact Ft.le L' hf (by omega)
      · rw [nE_two _ _ _ _ (by decide)]; exact Ft.max L' fa fb
      · intro b _ e j _ h hf
        have := ht _ _ _ _ _ h
        rw [nE_two _ _ _ _ (by decide)] at this
        exact Ft.le L' hf (by omega)
    · intro d a k e j h
      rw [termL] at h
      split at h
      · obtain ⟨b, _, _, h⟩ := bind_eq.1 h
        have := ht _ _ _ _ _ h
        rw [nE_two _ _ _ _ (by decide)] at this
        omega
      · split at h
        · obtain ⟨b, _, _, h⟩ := bind_eq.1 h
          have := ht _ _ _ _ _ h
          rw [nE_two _ _ _ _ (by decide)] at this
          omega
        · cases h; exact Nat.le_refl _
    · intro d k
      rw [unitP, unitP]
      refine LR.ite L' (fun _ => LR.ok L' ?_) fun _ => LR.ite L' (fun _ => ih.namedP _ _) fun _ => LR.ite L' (fun _ => ih.wordedP _ _) fun _ => ih.brackP _ _
      left
      rw [nE_mk, nL_nil]; rfl
    · intro d k
      rw [namedP, namedP]
      refine LR.ite L' (fun _ => LR.part L' (ih.argsP _ _) (fun l k1 _ fl => LR.ok L' ?_) ?_) fun _ => LR.ok L' ?_
      · rw [nE_mk, if_neg (by decide)]; exact fl
      · intro l _ e j _ h hf
        cases h
        rw [nE_mk, if_neg (by decide)] at hf
        exact hf
      · left
        rw [nE_mk, nL_nil]; rfl
    · intro d k
      rw [wordedP, wordedP]
      have hw : ∀ s, ¬ (wordOp s = 20 ∨ wordOp s = 21 ∨ wordOp s = 22) := by
        intro s
        unfold wordOp
        repeat' split
        all_goals decide
      refine LR.ite L' (fun _ => fun _ _ e => by cases e) fun _ => LR.ite L' (fun _ => LR.free L' fun t k1 _ => LR.ok L' ?_) fun _ => LR.ite L' (fun _ => LR.part L' (ih.brackP _ _) (fun a k1 _ fa => LR.ok L' ?_) ?_) fun _ => LR.ok L' ?_
      · left
        rw [nE_mk, nL_nil]; rfl
      · rw [nE_mk, if_neg (hw _), nL_cons, nL_nil, Nat.max_zero]; exact fa
      · intro a _ e j _ h hf
        cases h
        rw [nE_mk, if_neg (hw _), nL_cons, nL_nil, Nat.max_zero] at hf
        exact hf
      · left
        rw [nE_mk, if_neg (hw _), nL_nil]
    · intro d k
      rw [brackP, brackP]
      refine LR.free L' fun _ k1 _ => LR.part L' (ih.exprP _ _) (fun a k2 _ fa => LR.free L' fun _ k3 _ => LR.ok L' fa) ?_
      intro a _ e j _ h hf
      simp only [bind_eq] at h
      obtain ⟨_, _, _, h⟩ := h
      cases h
      exact hf
    · intro d k
      rw [argsP, argsP]
      refine LR.ite L' (fun _ => LR.ok L' (.inl nL_nil)) fun _ => LR.part L' (ih.exprP _ _) (fun a k1 _ fa => ih.argsL _ _ _ ?_) ?_
      · rw [nL_cons, nL_nil, Nat.max_zero]; exact fa
      · intro a _ e j _ h hf
        have := hA _ _ _ _ _ h
        rw [nL_cons, nL_nil, Nat.max_zero] at this
        exact Ft.le L' hf this
    · intro d acc k fa
      rw [argsL, argsL]
      refine LR.ite L' (fun _ => LR.part L' (ih.exprP _ _) (fun a k1 _ fb => ih.argsL _ _ _ ?_) ?_) fun _ => LR.free L' fun _ k1 _ => LR.ok L' fa
      · rw [nL_snoc]; exact Ft.max L' fa fb
      · intro a _ e j _ h hf
        have := hA _ _ _ _ _ h
        rw [nL_snoc] at this
        exact Ft.le L' hf (by omega)
    · intro d acc k e j h
      rw [argsL] at h
      split at h
      · obtain ⟨b, _, _, h⟩ := bind_eq.1 h
        have := hA _ _ _ _ _ h
        rw [nL_snoc] at this
        omega
      · obtain ⟨b, _, _, h⟩ := bind_eq.1 h
        cases h; exact Nat.le_refl _

/-! ## Parameters, definitions, programs -/
theorem lim_nameOf {num : Nat} {m m' : Int} {k : Nat} {x : Mk} {j : Nat} (h : nameOfP M num m k = .ok x j) : ((num : Int) < m' → nameOfP M num m' k = .ok x j) ∧ (m' ≤ num → nameOfP M num m' k = .bad 22 k) := by
  unfold nameOfP at h ⊢
  split at h
  · cases h
  · unfold nameP at h
    split at h
    · rename_i hk
      refine ⟨fun hl => ?_, fun hl => by rw [if_pos ⟨hl, hk⟩]⟩
      rw [if_neg (by omega)]
      unfold nameP
      rw [if_pos hk]
      exact h
    · cases h

theorem lim_param {num k : Nat} {x : Pm} {j : Nat} (h : paramP M L num k = .ok x j) : ((num : Int) < L'.a → paramP M L' num k = .ok x j) ∧ (L'.a ≤ num → paramP M L' num k = .bad 22 k) := by
  unfold paramP at h ⊢
  obtain ⟨m, k1, h1, h2⟩ := bind_eq.1 h
  obtain ⟨a, b⟩ := lim_nameOf M (m' := L'.a) h1
  exact ⟨fun hl => by rw [bind_eq_ok (a hl)]; exact h2, fun hl => by rw [bind_eq_bad (b hl)]⟩

theorem lim_paramsL : ∀ f acc k ps j, paramsL M L f acc k = .ok ps j → acc.length ≤ ps.length ∧ ((ps.length : Int) ≤ L'.a → paramsL M L' f acc k = .ok ps j) ∧ ((acc.length : Int) ≤ L'.a → L'.a < ps.length → ∃ i, paramsL M L' f acc k = .bad 22 i) := by
  intro f
  induction f with
  | zero => intro acc k ps j h; cases h
  | succ f ih =>
    intro acc k ps j h
    rw [paramsL] at h ⊢
    split at h
    · rename_i hc
      rw [if_pos hc]
      obtain ⟨x, k1, h1, h2⟩ := bind_eq.1 h
      obtain ⟨i1, i2, i3⟩ := ih _ _ _ _ h2
      simp only [List.length_append, List.length_cons, List.length_nil] at i1 i3
      obtain ⟨a, b⟩ := lim_param M L L' h1
      refine ⟨by omega, fun hl => ?_, fun h0 hl => ?_⟩
      · rw [bind_eq_ok (a (by omega))]
        exact i2 hl
      · by_cases hx : (acc.length : Int) < L'.a
        · rw [bind_eq_ok (a hx)]
          exact i3 (by omega) hl
        · exact ⟨_, by rw [bind_eq_bad (b (by omega))]⟩
    · rename_i hc
      rw [if_neg hc]
      obtain ⟨x, k1, h1, h2⟩ := bind_eq.1 h
      cases h2
      refine ⟨Nat.le_refl _, fun _ => h, fun _ _ => by omega⟩

theorem lim_params {f k : Nat} {ps : List Pm} {j : Nat} (h0 : 0 ≤ L'.a) (h : paramsP M L f k = .ok ps j) : ((ps.length : Int) ≤ L'.a → paramsP M L' f k = .ok ps j) ∧ (L'.a < ps.length → ∃ i, paramsP M L' f k = .bad 22 i) := by
  unfold paramsP at h ⊢
  obtain ⟨_, k1, h1, h2⟩ := bind_eq.1 h
  rw [bind_eq_ok h1]
  split at h2
  · rename_i hc
    rw [if_pos hc]
    cases h2
    exact ⟨fun _ => rfl, fun hl => by simp at hl; omega⟩
  · rename_i hc
    rw [if_neg hc]
    obtain ⟨x, k2, h3, h4⟩ := bind_eq.1 h2
    obtain ⟨a, b⟩ := lim_param M L L' h3
    obtain ⟨i1, i2, i3⟩ := lim_paramsL M L L' _ _ _ _ _ h4
    simp only [List.length_cons, List.length_nil] at i1 i3
    refine ⟨fun hl => ?_, fun hl => ?_⟩
    · rw [bind_eq_ok (a (by omega))]
      exact i2 hl
    · by_cases hx : (0 : Int) < L'.a
      · rw [bind_eq_ok (a (by simpa using hx))]
        exact i3 (by omega) hl
      · exact ⟨_, by rw [bind_eq_bad (b (by simp; omega))]⟩

/-- A definition fits. -/
def FitA (g : Fn1) : Prop := (g.pms.length : Int) ≤ L'.a
def FitN (g : Fn1) : Prop := (nE g.body : Int) ≤ L'.n

theorem lim_def {f num k : Nat} {g : Fn1} {j : Nat} (h0 : 0 ≤ L'.a) (hn : 0 ≤ L'.n) (h : defP M L f num k = .ok g j) :
    ((num : Int) < L'.f → FitA L' g → FitN L' g → defP M L' f num k = .ok g j) ∧ (L'.f ≤ num ∨ ¬ FitA L' g → ∃ i, defP M L' f num k = .bad 22 i) ∧ ((num : Int) < L'.f → FitA L' g → ¬ FitN L' g → ∃ i, defP M L' f num k = .bad 23 i) := by
  unfold defP at h ⊢
  obtain ⟨x, k1, h1, h2⟩ := bind_eq.1 h
  obtain ⟨ps, k2, h3, h4⟩ := bind_eq.1 h2
  obtain ⟨_, k3, h5, h6⟩ := bind_eq.1 h4
  obtain ⟨t, k4, h7, h8⟩ := bind_eq.1 h6
  obtain ⟨_, k5, h9, h10⟩ := bind_eq.1 h8
  obtain ⟨b, k6, h11, h12⟩ := bind_eq.1 h10
  obtain ⟨_, k7, h13, h14⟩ := bind_eq.1 h12
  cases h14
  obtain ⟨a1, a2⟩ := lim_nameOf M (m' := L'.f) h1
  obtain ⟨b1, b2⟩ := lim_params M L L' h0 h3
  unfold FitA FitN
  dsimp only
  have hb := (allLR M L L' f).exprP _ _ _ _ h11
  unfold Ft at hb
  refine ⟨fun e1 e2 e3 => ?_, fun e => ?_, fun e1 e2 e3 => ?_⟩
  · rcases hb with ⟨_, hb⟩ | ⟨hx, _⟩
    · rw [bind_eq_ok (a1 e1), bind_eq_ok (b1 e2), bind_eq_ok h5, bind_eq_ok h7, bind_eq_ok h9, bind_eq_ok hb, bind_eq_ok h13]
    · omega
  · by_cases e1 : (num : Int) < L'.f
    · obtain ⟨i, hi⟩ := b2 (by omega)
      exact ⟨i, by rw [bind_eq_ok (a1 e1), bind_eq_bad hi]⟩
    · exact ⟨_, by rw [bind_eq_bad (a2 (by omega))]⟩
  · rcases hb with ⟨hx, _⟩ | ⟨_, i, hb⟩
    · omega
    · exact ⟨i, by rw [bind_eq_ok (a1 e1), bind_eq_ok (b1 e2), bind_eq_ok h5, bind_eq_ok h7, bind_eq_ok h9, bind_eq_bad hb]⟩

theorem lim_prog (h0 : 0 ≤ L'.a) (hn : 0 ≤ L'.n) : ∀ f acc k ps j, progL M L f acc k = .ok ps j → ∃ new, ps = acc ++ new ∧
    ((ps.length : Int) ≤ L'.f → (∀ g ∈ new, FitA L' g) → (∀ g ∈ new, FitN L' g) → progL M L' f acc k = .ok ps j) ∧
    ((acc.length : Int) ≤ L'.f → (∀ g ∈ new, FitN L' g) → ¬ ((ps.length : Int) ≤ L'.f ∧ ∀ g ∈ new, FitA L' g) → ∃ i, progL M L' f acc k = .bad 22 i) ∧
    ((ps.length : Int) ≤ L'.f → (∀ g ∈ new, FitA L' g) → ¬ (∀ g ∈ new, FitN L' g) → ∃ i, progL M L' f acc k = .bad 23 i) := by
  intro f
  induction f with
  | zero => intro acc k ps j h; cases h
  | succ f ih =>
    intro acc k ps j h
    rw [progL] at h ⊢
    obtain ⟨g, k1, h1, h2⟩ := bind_eq.1 h
    obtain ⟨d1, d2, d3⟩ := lim_def M L L' h0 hn h1
    split at h2
    · rename_i hc
      cases h2
      refine ⟨[g], rfl, fun e1 e2 e3 => ?_, fun e1 e2 e3 => ?_, fun e1 e2 e3 => ?_⟩
      · simp at e1
        rw [bind_eq_ok (d1 (by omega) (e2 g (by simp)) (e3 g (by simp))), if_pos hc]
      · simp only [List.length_append, List.length_cons, List.length_nil, List.mem_singleton, forall_eq] at e3
        obtain ⟨i, hi⟩ := d2 (by
          by_cases hx : FitA L' g
          · left
            by_cases hy : ((acc.length + (0 + 1) : Nat) : Int) ≤ L'.f
            · exact absurd ⟨hy, hx⟩ e3
            · omega
          · exact .inr hx)
        exact ⟨i, by rw [bind_eq_bad hi]⟩
      · simp at e1 e3
        obtain ⟨i, hi⟩ := d3 (by omega) (e2 g (by simp)) e3
        exact ⟨i, by rw [bind_eq_bad hi]⟩
    · rename_i hc
      obtain ⟨new, i0, i1, i2, i3⟩ := ih _ _ _ _ h2
      subst i0
      simp only [List.length_append, List.length_cons, List.length_nil] at i1 i2 i3
      refine ⟨g :: new, by simp, fun e1 e2 e3 => ?_, fun e1 e2 e3 => ?_, fun e1 e2 e3 => ?_⟩
      · simp only [List.length_append, List.length_cons, List.length_nil] at e1
        rw [bind_eq_ok (d1 (by omega) (e2 g (by simp)) (e3 g (by simp))), if_neg hc]
        exact i1 (by omega) (fun x hx => e2 x (by simp [hx])) (fun x hx => e3 x (by simp [hx]))
      · by_cases hx : (acc.length : Int) < L'.f ∧ FitA L' g
        · rw [bind_eq_ok (d1 hx.1 hx.2 (e2 g (by simp))), if_neg hc]
          refine i2 (by omega) (fun x hx => e2 x (by simp [hx])) fun hh => e3 ⟨?_, ?_⟩
          · simp only [List.length_append, List.length_cons, List.length_nil]; omega
          · intro x hm
            rcases List.mem_cons.1 hm with rfl | hm
            · exact hx.2
            · exact hh.2 x hm
        · obtain ⟨i, hi⟩ := d2 (by
            by_cases hy : FitA L' g
            · left
              by_cases hz : (acc.length : Int) < L'.f
              · exact absurd ⟨hz, hy⟩ hx
              · omega
            · exact .inr hy)
          exact ⟨i, by rw [bind_eq_bad hi]⟩
      · simp only [List.length_append, List.length_cons, List.length_nil] at e1
        by_cases hx : FitN L' g
        · rw [bind_eq_ok (d1 (by omega) (e2 g (by simp)) hx), if_neg hc]
          refine i3 (by omega) (fun x hx => e2 x (by simp [hx])) fun hh => e3 ?_
          intro x hm
          rcases List.mem_cons.1 hm with rfl | hm
          · exact hx
          · exact hh x hm
        · obtain ⟨i, hi⟩ := d3 (by omega) (e2 g (by simp)) hx
          exact ⟨i, by rw [bind_eq_bad hi]⟩
end
end Go.Proofs.YtkonkplalgoekaaGreatDoor
