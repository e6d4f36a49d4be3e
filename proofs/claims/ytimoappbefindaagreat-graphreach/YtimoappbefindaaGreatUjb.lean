/-
  2 texts in one: what each proves stands at its head.
-/
import Derived.Test.YtimoappbefindaaGreatUW
import Derived.Test.YtimoappbefindaaGreatUr
namespace Go.Proofs.YtimoappbefindaaGreat
set_option maxHeartbeats 2000000
def Pls (M:Nat→Mk) (l:List Nat) (a b:Nat):Prop:=a≤b∧∃ js:List Nat,l=js.map (fun k=>(M k).at_)∧js.Pairwise (·<·)∧∀ k∈js,a≤k∧k<b∧(M k).kind=0
section
variable {M:Nat→Mk}
theorem Pls.nil {a b:Nat} (h:a≤b):Pls M [] a b:=⟨h,[],rfl,.nil,fun _ h=>by cases h⟩
theorem Pls.mono {l:List Nat} {a b a' b':Nat} (h:Pls M l a b) (ha:a'≤a) (hb:b≤b'):Pls M l a' b':=by
 obtain⟨h0,js,e,h1,h2⟩:=h
 exact⟨by omega,js,e,h1,fun k hk=>⟨by have:=(h2 k hk).1;omega,by have:=(h2 k hk).2.1;omega,(h2 k hk).2.2⟩⟩
def Rs.Ap {α:Type} (Q:α→Nat→Prop) (r:Rs α):Prop:=∀ a j,r=.ok a j→Q a j
theorem Rs.Ap.ok {α:Type} {Q:α→Nat→Prop} {a:α} {j:Nat} (h:Q a j):(Rs.ok a j).Ap Q:=by intro b i e;cases e;exact h
theorem Rs.Ap.bad {α:Type} {Q:α→Nat→Prop} {y:Int} {j:Nat}:(Rs.bad (α:=α) y j).Ap Q:=by intro b i e;cases e
theorem Rs.Ap.out {α:Type} {Q:α→Nat→Prop}:(Rs.out (α:=α)).Ap Q:=by intro b i e;cases e
theorem Rs.Ap.mono {α:Type} {Q S:α→Nat→Prop} {r:Rs α} (hr:r.Ap S) (h:∀ a j,S a j→Q a j):r.Ap Q:=fun a j e=>h a j (hr a j e)
variable (M) (L:Lm)
end
end Go.Proofs.YtimoappbefindaaGreat
