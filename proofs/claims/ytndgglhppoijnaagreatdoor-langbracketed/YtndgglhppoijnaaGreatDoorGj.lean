/-
  LangJoined, plainly: the relation turned round; where the first definition stands; how many there are.
-/
import Derived.Test.YtndgglhppoijnaaGreatDoorUA
namespace Go.Proofs.YtndgglhppoijnaaGreatDoor
set_option maxHeartbeats 2000000

mutual
theorem ExR.flip {ρ ρ' : Nat → Nat → Prop} (h : ∀ a b, ρ a b → ρ' b a) : ∀ {x y : Ex}, ExR ρ x y → ExR ρ' y x
  | .mk _ _ _ _ _ _ _ _, _, hx => by
    cases hx with
    | mk h1 h2 => exact .mk (h _ _ h1) (ExsR.flip h h2)
theorem ExsR.flip {ρ ρ' : Nat → Nat → Prop} (h : ∀ a b, ρ a b → ρ' b a) : ∀ {xs ys : List Ex}, ExsR ρ xs ys → ExsR ρ' ys xs
  | [], _, hx => by cases hx; exact .nil
  | _ :: _, _, hx => by
    cases hx with
    | cons h1 h2 => exact .cons (ExR.flip h h1) (ExsR.flip h h2)
end
theorem LiR.flip {α β : Type} {A : α → β → Prop} {B : β → α → Prop} (h : ∀ a b, A a b → B b a) : ∀ {xs : List α} {ys : List β}, LiR A xs ys → LiR B ys xs
  | _, _, .nil => .nil
  | _, _, .cons h1 h2 => .cons (h _ _ h1) (LiR.flip h h2)
theorem FnR.flip {ρ ρ' : Nat → Nat → Prop} (h : ∀ a b, ρ a b → ρ' b a) {f g : Fn1} (hf : FnR ρ f g) : FnR ρ' g f :=
  ⟨hf.name.symm, LiR.flip (fun _ _ hp => ⟨hp.name.symm, hp.ty.symm, h _ _ hp.pos⟩) hf.pms, hf.ty.symm, ExR.flip h hf.body, h _ _ hf.pos⟩

theorem prog_pre (M : Nat → Mk) (L : Lm) : ∀ f acc k gs j, progL M L f acc k = .ok gs j → ∃ new, gs = acc ++ new := by
  intro f
  induction f with
  | zero => intro acc k gs j h; cases h
  | succ f ih =>
    intro acc k gs j h
    rw [progL] at h
    obtain ⟨g, k1, h1, h2⟩ := bind_eq.1 h
    split at h2
    · cases h2; exact ⟨[g], rfl⟩
    · obtain ⟨new, e⟩ := ih _ _ _ _ h2
      exact ⟨[g] ++ new, by rw [e, List.append_assoc]⟩
theorem prog_first {M : Nat → Mk} {L : Lm} {f k : Nat} {gs : List Fn1} {j : Nat} (h : progL M L f [] k = .ok gs j) : ∃ g new, gs = g :: new ∧ g.pos = (M k).at_ := by
  cases f with
  | zero => cases h
  | succ f =>
    rw [progL] at h
    obtain ⟨g, k1, h1, h2⟩ := bind_eq.1 h
    have hp : g.pos = (M k).at_ := by
      unfold defP at h1
      obtain ⟨x, j1, g1, h1⟩ := bind_eq.1 h1
      obtain ⟨ps, j2, g2, h1⟩ := bind_eq.1 h1
      obtain ⟨_, j3, g3, h1⟩ := bind_eq.1 h1
      obtain ⟨t, j4, g4, h1⟩ := bind_eq.1 h1
      obtain ⟨_, j5, g5, h1⟩ := bind_eq.1 h1
      obtain ⟨b, j6, g6, h1⟩ := bind_eq.1 h1
      obtain ⟨_, j7, g7, h1⟩ := bind_eq.1 h1
      cases h1
      have e := (nameOf_ok g1).1
      unfold nameP at e
      split at e
      · cases e; rfl
      · cases e
    split at h2
    · cases h2; exact ⟨g, [], rfl, hp⟩
    · obtain ⟨new, e⟩ := prog_pre _ _ _ _ _ _ _ h2
      exact ⟨g, new, by rw [e]; rfl, hp⟩
end Go.Proofs.YtndgglhppoijnaaGreatDoor
