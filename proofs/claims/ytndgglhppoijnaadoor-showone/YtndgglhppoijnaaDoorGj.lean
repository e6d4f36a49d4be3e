/-
  LangJoined, plainly: the relation turned round; where the first definition stands; how many there are.
-/
import Derived.Test.YtndgglhppoijnaaDoorUA
namespace Go.Proofs.YtndgglhppoijnaaDoor
set_option maxHeartbeats 2000000

mutual
theorem ExR.flip {ρ ρ' : Nat → Nat → Prop} (h : ∀ a b, ρ a b → ρ' b a) : ∀ {x y : Ex}, ExR ρ x y → ExR ρ' y x
  | .mk _ _ _ _ _ _ _ _, _, hx => by
    cases hx with
    | mk h1 h2 => exact .mk (h _ _ h1) (ExsR.flip h h2)
theorem ExsR.flip {ρ ρ' : Nat → Nat → Prop} (h : ∀ a b, ρ a b → ρ' b a) : ∀ {xs ys : List Ex}, ExsR ρ xs ys → ExsR ρ' ys xs
  | [], _, hx => by cases hx; exact .nil
  | _ :: _, _, hx => by
    cases hx with
    | cons h1 h2 => exact .cons (ExR.flip h h1) (ExsR.flip h h2)
end
theorem LiR.flip {α β : Type} {A : α → β → Prop} {B : β → α → Prop} (h : ∀ a b, A a b → B b a) : ∀ {xs : List α} {ys : List β}, LiR A xs ys → LiR B ys xs
  | _, _, .nil => .nil
  | _, _, .cons h1 h2 => .cons (h _ _ h1) (LiR.flip h h2)
theorem FnR.flip {ρ ρ' : Nat → Nat → Prop} (h : ∀ a b, ρ a b → ρ' b a) {f g : Fn1} (hf : FnR ρ f g) : FnR ρ' g f :=
  ⟨hf.name.symm, LiR.flip (fun _ _ hp => ⟨hp.name.symm, hp.ty.symm, h _ _ hp.pos⟩) hf.pms, hf.ty.symm, ExR.flip h hf.body, h _ _ hf.pos⟩

end Go.Proofs.YtndgglhppoijnaaDoor
