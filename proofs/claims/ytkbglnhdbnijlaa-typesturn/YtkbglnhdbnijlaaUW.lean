/-
  11 texts in one: what each proves stands at its head.
-/
import Derived.Test.YtkbglnhdbnijlaaUA
import Derived.Test.YtkbglnhdbnijlaaUC
/-
  The text of an expression and of a program, plainly. No dump.
-/
namespace Go.Proofs.Ytkbglnhdbnijlaa

/-- The level of an operation. -/
def lvl (op : Int) : Int :=
  if op = 21 ∨ op = 22 ∨ op = 19 ∨ op = 20 then 0 else if op = 18 then 1 else if op = 12 ∨ op = 13 then 2 else if op = 8 ∨ op = 9 then 3 else if op = 10 ∨ op = 11 then 4 else 5
/-- The levels at which operands are wanted. -/
def loL (op : Int) : Int := if op = 18 then 2 else if op = 12 ∨ op = 13 then 3 else lvl op
def roL (op : Int) : Int := if op = 18 then 1 else if op = 12 ∨ op = 13 then 3 else lvl op + 1
def letT (ty : Int) : List UInt8 := if ty = 1 then [78] else if ty = 2 then [66] else if ty = 3 then [76] else []
def wordT (op : Int) : List UInt8 :=
  if op = 2 then [116, 114, 117, 101] else if op = 3 then [102, 97, 108, 115, 101] else if op = 4 then [110, 105, 108] else if op = 5 then [102, 97, 105, 108] else
  if op = 14 then [110, 111, 116] else if op = 15 then [114, 101] else if op = 16 then [105, 109] else if op = 17 then [99, 111, 110, 106] else
  if op = 21 then [108, 101, 116] else if op = 22 then [115, 116, 114, 105, 99, 116] else []
def signT (op : Int) : List UInt8 :=
  if op = 18 then [58] else if op = 12 then [61, 61] else if op = 13 then [60] else if op = 8 then [43] else if op = 9 then [45] else if op = 10 then [42] else if op = 11 then [47] else []

/-- In brackets, where more is wanted. -/
def brq (l n : Int) (s : List UInt8) : List UInt8 := if l < n then [40] ++ s ++ [41] else s
/-- The part at a place, where a level is wanted; nothing, if there is none. -/
def pt (ps : List (Int × List UInt8)) (i : Nat) (n : Int) : List UInt8 := if i < ps.length then brq (ps.getD i (0, [])).1 n (ps.getD i (0, [])).2 else []
/-- Texts with commas between. -/
def cm : List (List UInt8) → List UInt8
  | [] => []
  | x :: xs => x ++ (xs.map fun y => [44, 32] ++ y).flatten

/-- An expression's text without brackets around it, by its parts' levels and texts. -/
def fm (op : Int) (name tail : List UInt8) (ty p q : Int) (ps : List (Int × List UInt8)) : List UInt8 :=
  if op = 1 then txt p q else if op = 2 ∨ op = 3 ∨ op = 4 then wordT op else if op = 5 then wordT op ++ [32] ++ letT ty else if op = 6 then name else
  if op = 7 then name ++ [40] ++ cm (ps.map (·.2)) ++ [41] else
  if op = 14 ∨ op = 15 ∨ op = 16 ∨ op = 17 then wordT op ++ [40] ++ pt ps 0 0 ++ [41] else
  if op = 18 ∨ op = 12 ∨ op = 13 ∨ op = 8 ∨ op = 9 ∨ op = 10 ∨ op = 11 then pt ps 0 (loL op) ++ [32] ++ signT op ++ [32] ++ pt ps 1 (roL op) else
  if op = 19 then [105, 102, 32] ++ pt ps 0 0 ++ [32, 116, 104, 101, 110, 32] ++ pt ps 1 0 ++ [32, 101, 108, 115, 101, 32] ++ pt ps 2 0 else
  if op = 21 ∨ op = 22 then wordT op ++ [32] ++ name ++ [32] ++ letT ty ++ [32, 61, 32] ++ pt ps 0 0 ++ [32, 105, 110, 32] ++ pt ps 1 0 else
  if op = 20 then [99, 97, 115, 101, 32] ++ pt ps 0 0 ++ [32, 111, 102, 32, 110, 105, 108, 32, 45, 62, 32] ++ pt ps 1 0 ++ [32, 124, 32] ++ name ++ [58] ++ tail ++ [32, 45, 62, 32] ++ pt ps 2 0 else []

def Ex.op : Ex → Int
  | .mk op _ _ _ _ _ _ _ => op

mutual
/-- An expression's text. -/
def shE : Ex → List UInt8
  | .mk op name tail ty p q xs _ => fm op name tail ty p q (shL xs)
/-- The levels and texts of parts. -/
def shL : List Ex → List (Int × List UInt8)
  | [] => []
  | x :: xs => (lvl x.op, shE x) :: shL xs
end

theorem shE_mk (op : Int) (a b : List UInt8) (t p q : Int) (xs : List Ex) (i : Nat) : shE (.mk op a b t p q xs i) = fm op a b t p q (shL xs) := by rw [shE]
theorem shL_nil : shL [] = [] := by rw [shL]
theorem shL_cons (x : Ex) (xs : List Ex) : shL (x :: xs) = (lvl x.op, shE x) :: shL xs := by rw [shL]
theorem lvl_nonneg (op : Int) : 0 ≤ lvl op := by
  unfold lvl
  split
  · omega
  · split
    · omega
    · split
      · omega
      · split
        · omega
        · split <;> omega
def pmT (x : Pm) : List UInt8 := x.name ++ [32] ++ letT x.ty
/-- The first k parameters. -/
def pmK (ps : List Pm) (k : Nat) : List UInt8 := cm ((ps.take k).map pmT)
def dfT (g : Fn1) : List UInt8 := g.name ++ [40] ++ pmK g.pms g.pms.length ++ [41, 58, 32] ++ letT g.ty ++ [32, 61, 32] ++ shE g.body ++ [59]
/-- A program's text. -/
def prT (gs : List Fn1) : List UInt8 := (gs.map fun g => dfT g ++ [10]).flatten
end Go.Proofs.Ytkbglnhdbnijlaa
/-
  What is read from marks has the shape that its operation asks. No dump.
-/
namespace Go.Proofs.Ytkbglnhdbnijlaa
set_option maxHeartbeats 2000000

/-- The shape of an expression of n parts, by what names and numbers may be. -/
inductive Shp (Nm : List UInt8 → Prop) (Nu : Int → Int → Prop) : Int → List UInt8 → List UInt8 → Int → Int → Int → Nat → Prop
  | num {p q : Int} : Nu p q → Shp Nm Nu 1 [] [] 0 p q 0
  | word {op : Int} : op = 2 ∨ op = 3 ∨ op = 4 → Shp Nm Nu op [] [] 0 0 0 0
  | fail {ty : Int} : ty = 1 ∨ ty = 2 ∨ ty = 3 → Shp Nm Nu 5 [] [] ty 0 0 0
  | var {x : List UInt8} : Nm x → Shp Nm Nu 6 x [] 0 0 0 0
  | call {x : List UInt8} {n : Nat} : Nm x → Shp Nm Nu 7 x [] 0 0 0 n
  | one {op : Int} : op = 14 ∨ op = 15 ∨ op = 16 ∨ op = 17 → Shp Nm Nu op [] [] 0 0 0 1
  | two {op : Int} : op = 18 ∨ op = 12 ∨ op = 13 ∨ op = 8 ∨ op = 9 ∨ op = 10 ∨ op = 11 → Shp Nm Nu op [] [] 0 0 0 2
  | cond : Shp Nm Nu 19 [] [] 0 0 0 3
  | bind {op : Int} {x : List UInt8} {ty : Int} : op = 21 ∨ op = 22 → Nm x → ty = 1 ∨ ty = 2 ∨ ty = 3 → Shp Nm Nu op x [] ty 0 0 2
  | look {x y : List UInt8} : Nm x → Nm y → Shp Nm Nu 20 x y 0 0 0 3

mutual
def wfE (Nm : List UInt8 → Prop) (Nu : Int → Int → Prop) : Ex → Prop
  | .mk op x y ty p q xs _ => Shp Nm Nu op x y ty p q xs.length ∧ wfL Nm Nu xs
def wfL (Nm : List UInt8 → Prop) (Nu : Int → Int → Prop) : List Ex → Prop
  | [] => True
  | x :: xs => wfE Nm Nu x ∧ wfL Nm Nu xs
end

section
variable {Nm : List UInt8 → Prop} {Nu : Int → Int → Prop}
theorem wfE_mk (op : Int) (a b : List UInt8) (t p q : Int) (xs : List Ex) (i : Nat) : wfE Nm Nu (.mk op a b t p q xs i) ↔ Shp Nm Nu op a b t p q xs.length ∧ wfL Nm Nu xs := by rw [wfE]
theorem wfL_nil : wfL Nm Nu [] := by rw [wfL]; trivial
theorem wfL_cons (x : Ex) (xs : List Ex) : wfL Nm Nu (x :: xs) ↔ wfE Nm Nu x ∧ wfL Nm Nu xs := by rw [wfL]
theorem wfL_snoc : ∀ (xs : List Ex) (x : Ex), wfL Nm Nu xs → wfE Nm Nu x → wfL Nm Nu (xs ++ [x])
  | [], x, _, h => by rw [List.nil_append, wfL_cons]; exact ⟨h, wfL_nil⟩
  | y :: xs, x, h, k => by
    rw [wfL_cons] at h
    rw [List.cons_append, wfL_cons]
    exact ⟨h.1, wfL_snoc xs x h.2 k⟩
theorem wfL_at : ∀ (xs : List Ex), wfL Nm Nu xs → ∀ k, k < xs.length → wfE Nm Nu (xs.getD k ed)
  | [], _, k, h => by simp at h
  | x :: xs, hw, 0, _ => by rw [wfL_cons] at hw; rw [List.getD_cons_zero]; exact hw.1
  | x :: xs, hw, k + 1, h => by rw [wfL_cons] at hw; rw [List.getD_cons_succ]; exact wfL_at xs hw.2 k (by simpa using h)
theorem wf1 {a : Ex} (h : wfE Nm Nu a) : wfL Nm Nu [a] := by rw [wfL_cons]; exact ⟨h, wfL_nil⟩
theorem wf2 {a b : Ex} (h : wfE Nm Nu a) (k : wfE Nm Nu b) : wfL Nm Nu [a, b] := by rw [wfL_cons]; exact ⟨h, wf1 k⟩
theorem wf3 {a b c : Ex} (h : wfE Nm Nu a) (k : wfE Nm Nu b) (l : wfE Nm Nu c) : wfL Nm Nu [a, b, c] := by rw [wfL_cons]; exact ⟨h, wf2 k l⟩
theorem wf_two {op : Int} {a b : Ex} {m : Mk} (ho : op = 18 ∨ op = 12 ∨ op = 13 ∨ op = 8 ∨ op = 9 ∨ op = 10 ∨ op = 11) (h : wfE Nm Nu a) (k : wfE Nm Nu b) : wfE Nm Nu (two op a b m) := by
  unfold Proofs.Ytkbglnhdbnijlaa.two
  rw [wfE_mk]
  exact ⟨.two ho, wf2 h k⟩

/-- What is read has this. -/
def Rs.Al {α : Type} (Q : α → Prop) (r : Rs α) : Prop := ∀ a j, r = .ok a j → Q a
theorem Rs.Al.ok {α : Type} {Q : α → Prop} {a : α} {j : Nat} (h : Q a) : (Rs.ok a j).Al Q := by intro b i e; cases e; exact h
theorem Rs.Al.bad {α : Type} {Q : α → Prop} {y : Int} {j : Nat} : (Rs.bad (α := α) y j).Al Q := by intro b i e; cases e
theorem Rs.Al.out {α : Type} {Q : α → Prop} : (Rs.out (α := α)).Al Q := by intro b i e; cases e
theorem Rs.Al.ite {α : Type} {Q : α → Prop} {p : Prop} [Decidable p] {x y : Rs α} (h1 : p → x.Al Q) (h2 : ¬ p → y.Al Q) : (if p then x else y).Al Q := by
  by_cases h : p
  · rw [if_pos h]; exact h1 h
  · rw [if_neg h]; exact h2 h
theorem Rs.Al.bnd {α β : Type} {Q : β → Prop} {S : α → Prop} {r : Rs α} {g : α → Nat → Rs β} (hr : r.Al S) (h : ∀ a j, S a → (g a j).Al Q) : (r.bind g).Al Q := by
  intro b i e
  obtain ⟨a, j, e1, e2⟩ := bind_eq.1 e
  exact h a j (hr a j e1) b i e2

variable (M : Nat → Mk) (L : Lm)
theorem al_any {α : Type} (r : Rs α) : r.Al fun _ => True := fun _ _ _ => trivial
theorem al_name (hN : ∀ k, (M k).kind = 0 → Nm (M k).text) (k : Nat) : (nameP M k).Al fun x => Nm x.text := by
  unfold nameP
  exact Rs.Al.ite (fun h => Rs.Al.ok (hN k h)) fun _ => Rs.Al.bad
theorem al_nameOf (hN : ∀ k, (M k).kind = 0 → Nm (M k).text) (n : Nat) (m : Int) (k : Nat) : (nameOfP M n m k).Al fun x => Nm x.text := by
  unfold nameOfP
  exact Rs.Al.ite (fun _ => Rs.Al.bad) fun _ => al_name M hN k
theorem al_type (k : Nat) : (typeP M k).Al fun t => t = 1 ∨ t = 2 ∨ t = 3 := by
  unfold typeP
  exact Rs.Al.ite (fun _ => Rs.Al.ok (by simp)) fun _ => Rs.Al.ite (fun _ => Rs.Al.ok (by simp)) fun _ => Rs.Al.ite (fun _ => Rs.Al.ok (by simp)) fun _ => Rs.Al.bad
theorem wordOp_in5 (s : List UInt8) : wordOp s = 0 ∨ wordOp s = 2 ∨ wordOp s = 3 ∨ wordOp s = 4 ∨ wordOp s = 5 ∨ wordOp s = 14 ∨ wordOp s = 15 ∨ wordOp s = 16 ∨ wordOp s = 17 := by
  unfold wordOp
  repeat' split
  all_goals simp

variable (hN : ∀ k, (M k).kind = 0 → Nm (M k).text) (hU : ∀ k, (M k).kind = 2 → Nu (M k).p (M k).q)
structure AllWf (Nm : List UInt8 → Prop) (Nu : Int → Int → Prop) (M : Nat → Mk) (L : Lm) (f : Nat) : Prop where
  exprP : ∀ d k, (Proofs.Ytkbglnhdbnijlaa.exprP M L f d k).Al (wfE Nm Nu)
  bindP : ∀ op d k, op = 21 ∨ op = 22 → (Proofs.Ytkbglnhdbnijlaa.bindP M L f op d k).Al (wfE Nm Nu)
  ifP : ∀ d k, (Proofs.Ytkbglnhdbnijlaa.ifP M L f d k).Al (wfE Nm Nu)
  caseP : ∀ d k, (Proofs.Ytkbglnhdbnijlaa.caseP M L f d k).Al (wfE Nm Nu)
  consP : ∀ d k, (Proofs.Ytkbglnhdbnijlaa.consP M L f d k).Al (wfE Nm Nu)
  compP : ∀ d k, (Proofs.Ytkbglnhdbnijlaa.compP M L f d k).Al (wfE Nm Nu)
  sumP : ∀ d k, (Proofs.Ytkbglnhdbnijlaa.sumP M L f d k).Al (wfE Nm Nu)
  sumL : ∀ d a k, wfE Nm Nu a → (Proofs.Ytkbglnhdbnijlaa.sumL M L f d a k).Al (wfE Nm Nu)
  termP : ∀ d k, (Proofs.Ytkbglnhdbnijlaa.termP M L f d k).Al (wfE Nm Nu)
  termL : ∀ d a k, wfE Nm Nu a → (Proofs.Ytkbglnhdbnijlaa.termL M L f d a k).Al (wfE Nm Nu)
  unitP : ∀ d k, (Proofs.Ytkbglnhdbnijlaa.unitP M L f d k).Al (wfE Nm Nu)
  namedP : ∀ d k, (M k).kind = 0 → (Proofs.Ytkbglnhdbnijlaa.namedP M L f d k).Al (wfE Nm Nu)
  wordedP : ∀ d k, (Proofs.Ytkbglnhdbnijlaa.wordedP M L f d k).Al (wfE Nm Nu)
  brackP : ∀ d k, (Proofs.Ytkbglnhdbnijlaa.brackP M L f d k).Al (wfE Nm Nu)
  argsP : ∀ d k, (Proofs.Ytkbglnhdbnijlaa.argsP M L f d k).Al (wfL Nm Nu)
  argsL : ∀ d acc k, wfL Nm Nu acc → (Proofs.Ytkbglnhdbnijlaa.argsL M L f d acc k).Al (wfL Nm Nu)

include hN hU in
theorem allWf : ∀ f, AllWf Nm Nu M L f := by
  intro f
  induction f with
  | zero =>
    constructor
    · intro d k; rw [Proofs.Ytkbglnhdbnijlaa.exprP]; exact Rs.Al.out
    · intro op d k _; rw [Proofs.Ytkbglnhdbnijlaa.bindP]; exact Rs.Al.out
    · intro d k; rw [Proofs.Ytkbglnhdbnijlaa.ifP]; exact Rs.Al.out
    · intro d k; rw [Proofs.Ytkbglnhdbnijlaa.caseP]; exact Rs.Al.out
    · intro d k; rw [Proofs.Ytkbglnhdbnijlaa.consP]; exact Rs.Al.out
    · intro d k; rw [Proofs.Ytkbglnhdbnijlaa.compP]; exact Rs.Al.out
    · intro d k; rw [Proofs.Ytkbglnhdbnijlaa.sumP]; exact Rs.Al.out
    · intro d a k _; rw [Proofs.Ytkbglnhdbnijlaa.sumL]; exact Rs.Al.out
    · intro d k; rw [Proofs.Ytkbglnhdbnijlaa.termP]; exact Rs.Al.out
    · intro d a k _; rw [Proofs.Ytkbglnhdbnijlaa.termL]; exact Rs.Al.out
    · intro d k; rw [Proofs.Ytkbglnhdbnijlaa.unitP]; exact Rs.Al.out
    · intro d k _; rw [Proofs.Ytkbglnhdbnijlaa.namedP]; exact Rs.Al.out
    · intro d k; rw [Proofs.Ytkbglnhdbnijlaa.wordedP]; exact Rs.Al.out
    · intro d k; rw [Proofs.Ytkbglnhdbnijlaa.brackP]; exact Rs.Al.out
    · intro d k; rw [Proofs.Ytkbglnhdbnijlaa.argsP]; exact Rs.Al.out
    · intro d acc k _; rw [Proofs.Ytkbglnhdbnijlaa.argsL]; exact Rs.Al.out
  | succ f ih =>
    constructor
    · intro d k; rw [Proofs.Ytkbglnhdbnijlaa.exprP]
      exact Rs.Al.ite (fun _ => ih.bindP _ _ _ (.inl rfl)) fun _ => Rs.Al.ite (fun _ => ih.bindP _ _ _ (.inr rfl)) fun _ => Rs.Al.ite (fun _ => ih.ifP _ _) fun _ => Rs.Al.ite (fun _ => ih.caseP _ _) fun _ => ih.consP _ _
    · intro op d k ho; rw [Proofs.Ytkbglnhdbnijlaa.bindP]
      refine Rs.Al.ite (fun _ => Rs.Al.bad) fun _ => Rs.Al.bnd (al_name M hN _) fun x k1 h1 => Rs.Al.bnd (al_type M _) fun t k2 h2 => Rs.Al.bnd (al_any _) fun _ k3 _ => Rs.Al.bnd (ih.exprP _ _) fun a k4 h4 => Rs.Al.bnd (al_any _) fun _ k5 _ => Rs.Al.bnd (ih.exprP _ _) fun b k6 h6 => Rs.Al.ok ?_
      rw [wfE_mk]; exact ⟨.bind ho h1 h2, wf2 h4 h6⟩
    · intro d k; rw [Proofs.Ytkbglnhdbnijlaa.ifP]
      refine Rs.Al.bnd (ih.exprP _ _) fun a k1 h1 => Rs.Al.bnd (al_any _) fun _ k2 _ => Rs.Al.bnd (ih.exprP _ _) fun b k3 h3 => Rs.Al.bnd (al_any _) fun _ k4 _ => Rs.Al.bnd (ih.exprP _ _) fun c k5 h5 => Rs.Al.ok ?_
      rw [wfE_mk]; exact ⟨.cond, wf3 h1 h3 h5⟩
    · intro d k; rw [Proofs.Ytkbglnhdbnijlaa.caseP]
      refine Rs.Al.ite (fun _ => Rs.Al.bad) fun _ => Rs.Al.bnd (ih.exprP _ _) fun a k1 h1 => Rs.Al.bnd (al_any _) fun _ k2 _ => Rs.Al.bnd (al_any _) fun _ k3 _ => Rs.Al.bnd (al_any _) fun _ k4 _ => Rs.Al.bnd (ih.exprP _ _) fun b k5 h5 => ?_
      refine Rs.Al.bnd (al_any _) fun _ k6 _ => Rs.Al.bnd (al_name M hN _) fun x k7 h7 => Rs.Al.bnd (al_any _) fun _ k8 _ => Rs.Al.bnd (al_name M hN _) fun y k9 h9 => Rs.Al.bnd (al_any _) fun _ k10 _ => Rs.Al.bnd (ih.exprP _ _) fun c k11 h11 => Rs.Al.ok ?_
      rw [wfE_mk]; exact ⟨.look h7 h9, wf3 h1 h5 h11⟩
    · intro d k; rw [Proofs.Ytkbglnhdbnijlaa.consP]
      exact Rs.Al.bnd (ih.compP _ _) fun a k1 h1 => Rs.Al.ite (fun _ => Rs.Al.bnd (ih.consP _ _) fun b k2 h2 => Rs.Al.ok (wf_two (by simp) h1 h2)) fun _ => Rs.Al.ok h1
    · intro d k; rw [Proofs.Ytkbglnhdbnijlaa.compP]
      exact Rs.Al.bnd (ih.sumP _ _) fun a k1 h1 => Rs.Al.ite (fun _ => Rs.Al.bnd (ih.sumP _ _) fun b k2 h2 => Rs.Al.ok (wf_two (by simp) h1 h2)) fun _ => Rs.Al.ite (fun _ => Rs.Al.bnd (ih.sumP _ _) fun b k2 h2 => Rs.Al.ok (wf_two (by simp) h1 h2)) fun _ => Rs.Al.ok h1
    · intro d k; rw [Proofs.Ytkbglnhdbnijlaa.sumP]
      exact Rs.Al.bnd (ih.termP _ _) fun a k1 h1 => ih.sumL _ _ _ h1
    · intro d a k h; rw [Proofs.Ytkbglnhdbnijlaa.sumL]
      exact Rs.Al.ite (fun _ => Rs.Al.bnd (ih.termP _ _) fun b k1 h1 => ih.sumL _ _ _ (wf_two (by simp) h h1)) fun _ => Rs.Al.ite (fun _ => Rs.Al.bnd (ih.termP _ _) fun b k1 h1 => ih.sumL _ _ _ (wf_two (by simp) h h1)) fun _ => Rs.Al.ok h
    · intro d k; rw [Proofs.Ytkbglnhdbnijlaa.termP]
      exact Rs.Al.bnd (ih.unitP _ _) fun a k1 h1 => ih.termL _ _ _ h1
    · intro d a k h; rw [Proofs.Ytkbglnhdbnijlaa.termL]
      exact Rs.Al.ite (fun _ => Rs.Al.bnd (ih.unitP _ _) fun b k1 h1 => ih.termL _ _ _ (wf_two (by simp) h h1)) fun _ => Rs.Al.ite (fun _ => Rs.Al.bnd (ih.unitP _ _) fun b k1 h1 => ih.termL _ _ _ (wf_two (by simp) h h1)) fun _ => Rs.Al.ok h
    · intro d k; rw [Proofs.Ytkbglnhdbnijlaa.unitP]
      refine Rs.Al.ite (fun h => Rs.Al.ok ?_) fun _ => Rs.Al.ite (fun h => ih.namedP _ _ h) fun _ => Rs.Al.ite (fun _ => ih.wordedP _ _) fun _ => ih.brackP _ _
      rw [wfE_mk]; exact ⟨.num (hU _ h), wfL_nil⟩
    · intro d k h0; rw [Proofs.Ytkbglnhdbnijlaa.namedP]
      refine Rs.Al.ite (fun _ => Rs.Al.bnd (ih.argsP _ _) fun l k1 h1 => Rs.Al.ok ?_) fun _ => Rs.Al.ok ?_
      · rw [wfE_mk]; exact ⟨.call (hN k h0), h1⟩
      · rw [wfE_mk]; exact ⟨.var (hN k h0), wfL_nil⟩
    · intro d k; rw [Proofs.Ytkbglnhdbnijlaa.wordedP]
      have hw := wordOp_in5 (M k).text
      refine Rs.Al.ite (fun _ => Rs.Al.bad) fun n0 => Rs.Al.ite (fun h5 => Rs.Al.bnd (al_type M _) fun t k1 h1 => Rs.Al.ok ?_) fun n5 => Rs.Al.ite (fun h14 => Rs.Al.bnd (ih.brackP _ _) fun e k1 h1 => Rs.Al.ok ?_) fun n14 => Rs.Al.ok ?_
      · rw [wfE_mk]; exact ⟨.fail h1, wfL_nil⟩
      · rw [wfE_mk]; exact ⟨.one (by omega), wf1 h1⟩
      · rw [wfE_mk]; exact ⟨.word (by omega), wfL_nil⟩
    · intro d k; rw [Proofs.Ytkbglnhdbnijlaa.brackP]
      exact Rs.Al.bnd (al_any _) fun _ k1 _ => Rs.Al.bnd (ih.exprP _ _) fun e k2 h2 => Rs.Al.bnd (al_any _) fun _ k3 _ => Rs.Al.ok h2
    · intro d k; rw [Proofs.Ytkbglnhdbnijlaa.argsP]
      exact Rs.Al.ite (fun _ => Rs.Al.ok wfL_nil) fun _ => Rs.Al.bnd (ih.exprP _ _) fun a k1 h1 => ih.argsL _ _ _ (wf1 h1)
    · intro d acc k h; rw [Proofs.Ytkbglnhdbnijlaa.argsL]
      exact Rs.Al.ite (fun _ => Rs.Al.bnd (ih.exprP _ _) fun a k1 h1 => ih.argsL _ _ _ (wfL_snoc _ _ h h1)) fun _ => Rs.Al.bnd (al_any _) fun _ k1 _ => Rs.Al.ok h

/-- A definition of that shape. -/
structure WfF (Nm : List UInt8 → Prop) (Nu : Int → Int → Prop) (g : Fn1) : Prop where
  name : Nm g.name
  ty : g.ty = 1 ∨ g.ty = 2 ∨ g.ty = 3
  pms : ∀ x ∈ g.pms, Nm x.name ∧ (x.ty = 1 ∨ x.ty = 2 ∨ x.ty = 3)
  body : wfE Nm Nu g.body

include hN in
theorem al_param (num k : Nat) : (paramP M L num k).Al fun x => Nm x.name ∧ (x.ty = 1 ∨ x.ty = 2 ∨ x.ty = 3) := by
  unfold paramP
  exact Rs.Al.bnd (al_nameOf M hN _ _ _) fun x k1 h1 => Rs.Al.bnd (al_type M _) fun t k2 h2 => Rs.Al.ok ⟨h1, h2⟩
include hN in
theorem al_paramsL : ∀ f acc k, (∀ x ∈ acc, Nm x.name ∧ (x.ty = 1 ∨ x.ty = 2 ∨ x.ty = 3)) → (paramsL M L f acc k).Al fun ps => ∀ x ∈ ps, Nm x.name ∧ (x.ty = 1 ∨ x.ty = 2 ∨ x.ty = 3) := by
  intro f
  induction f with
  | zero => intro acc k _; rw [paramsL]; exact Rs.Al.out
  | succ f ih =>
    intro acc k h
    rw [paramsL]
    refine Rs.Al.ite (fun _ => Rs.Al.bnd (al_param M L hN _ _) fun a k1 h1 => ih _ _ fun x hx => ?_) fun _ => Rs.Al.bnd (al_any _) fun _ k1 _ => Rs.Al.ok h
    rcases List.mem_append.1 hx with hx | hx
    · exact h x hx
    · obtain rfl := List.mem_singleton.1 hx
      exact h1
include hN in
theorem al_params (f k : Nat) : (paramsP M L f k).Al fun ps => ∀ x ∈ ps, Nm x.name ∧ (x.ty = 1 ∨ x.ty = 2 ∨ x.ty = 3) := by
  unfold paramsP
  refine Rs.Al.bnd (al_any _) fun _ k1 _ => Rs.Al.ite (fun _ => Rs.Al.ok fun x hx => by cases hx) fun _ => Rs.Al.bnd (al_param M L hN _ _) fun a k2 h2 => al_paramsL M L hN _ _ _ fun x hx => ?_
  obtain rfl := List.mem_singleton.1 hx
  exact h2
include hN hU in
theorem al_def (f num k : Nat) : (defP M L f num k).Al (WfF Nm Nu) := by
  unfold defP
  exact Rs.Al.bnd (al_nameOf M hN _ _ _) fun x k1 h1 => Rs.Al.bnd (al_params M L hN _ _) fun ps k2 h2 => Rs.Al.bnd (al_any _) fun _ k3 _ => Rs.Al.bnd (al_type M _) fun t k4 h4 => Rs.Al.bnd (al_any _) fun _ k5 _ =>
    Rs.Al.bnd ((allWf M L hN hU f).exprP _ _) fun b k6 h6 => Rs.Al.bnd (al_any _) fun _ k7 _ => Rs.Al.ok ⟨h1, h4, h2, h6⟩
include hN hU in
theorem al_prog : ∀ f acc k, (∀ g ∈ acc, WfF Nm Nu g) → (progL M L f acc k).Al fun gs => ∀ g ∈ gs, WfF Nm Nu g := by
  intro f
  induction f with
  | zero => intro acc k _; rw [progL]; exact Rs.Al.out
  | succ f ih =>
    intro acc k h
    have hs : ∀ g, WfF Nm Nu g → ∀ x ∈ acc ++ [g], WfF Nm Nu x := fun g hg x hx => by
      rcases List.mem_append.1 hx with hx | hx
      · exact h x hx
      · obtain rfl := List.mem_singleton.1 hx
        exact hg
    rw [progL]
    exact Rs.Al.bnd (al_def M L hN hU _ _ _) fun g k1 h1 => Rs.Al.ite (fun _ => Rs.Al.ok (hs g h1)) fun _ => ih _ _ (hs g h1)
end
end Go.Proofs.Ytkbglnhdbnijlaa
/-
  More fuel changes nothing that was read; what holds from some fuel on. No dump.
-/
namespace Go.Proofs.Ytkbglnhdbnijlaa
set_option maxHeartbeats 2000000

/-- The first ran out of fuel, or they are one. -/
def Rs.Le {α : Type} (r r' : Rs α) : Prop := r = .out ∨ r = r'
theorem Rs.Le.refl {α : Type} (r : Rs α) : r.Le r := .inr rfl
theorem Rs.Le.out {α : Type} (r : Rs α) : (Rs.out (α := α)).Le r := .inl rfl
theorem Rs.Le.trans {α : Type} {r s t : Rs α} (h : r.Le s) (k : s.Le t) : r.Le t := by
  rcases h with h | h
  · exact .inl h
  · rw [h]; exact k
theorem Rs.Le.bnd {α β : Type} {r r' : Rs α} {g g' : α → Nat → Rs β} (h : r.Le r') (hg : ∀ a k, (g a k).Le (g' a k)) : (r.bind g).Le (r'.bind g') := by
  rcases h with h | h
  · rw [h]; exact .inl rfl
  · rw [h]
    cases r' with
    | ok a k => exact hg a k
    | bad y k => exact .inr rfl
    | out => exact .inl rfl
theorem Rs.Le.ite {α : Type} {p : Prop} [Decidable p] {x y x' y' : Rs α} (h1 : x.Le x') (h2 : y.Le y') : (if p then x else y).Le (if p then x' else y') := by
  by_cases h : p
  · rw [if_pos h, if_pos h]; exact h1
  · rw [if_neg h, if_neg h]; exact h2

section
variable (M : Nat → Mk) (L : Lm)
structure AllLe (f : Nat) : Prop where
  exprP : ∀ d k, (Proofs.Ytkbglnhdbnijlaa.exprP M L f d k).Le (Proofs.Ytkbglnhdbnijlaa.exprP M L (f + 1) d k)
  bindP : ∀ op d k, (Proofs.Ytkbglnhdbnijlaa.bindP M L f op d k).Le (Proofs.Ytkbglnhdbnijlaa.bindP M L (f + 1) op d k)
  ifP : ∀ d k, (Proofs.Ytkbglnhdbnijlaa.ifP M L f d k).Le (Proofs.Ytkbglnhdbnijlaa.ifP M L (f + 1) d k)
  caseP : ∀ d k, (Proofs.Ytkbglnhdbnijlaa.caseP M L f d k).Le (Proofs.Ytkbglnhdbnijlaa.caseP M L (f + 1) d k)
  consP : ∀ d k, (Proofs.Ytkbglnhdbnijlaa.consP M L f d k).Le (Proofs.Ytkbglnhdbnijlaa.consP M L (f + 1) d k)
  compP : ∀ d k, (Proofs.Ytkbglnhdbnijlaa.compP M L f d k).Le (Proofs.Ytkbglnhdbnijlaa.compP M L (f + 1) d k)
  sumP : ∀ d k, (Proofs.Ytkbglnhdbnijlaa.sumP M L f d k).Le (Proofs.Ytkbglnhdbnijlaa.sumP M L (f + 1) d k)
  sumL : ∀ d a k, (Proofs.Ytkbglnhdbnijlaa.sumL M L f d a k).Le (Proofs.Ytkbglnhdbnijlaa.sumL M L (f + 1) d a k)
  termP : ∀ d k, (Proofs.Ytkbglnhdbnijlaa.termP M L f d k).Le (Proofs.Ytkbglnhdbnijlaa.termP M L (f + 1) d k)
  termL : ∀ d a k, (Proofs.Ytkbglnhdbnijlaa.termL M L f d a k).Le (Proofs.Ytkbglnhdbnijlaa.termL M L (f + 1) d a k)
  unitP : ∀ d k, (Proofs.Ytkbglnhdbnijlaa.unitP M L f d k).Le (Proofs.Ytkbglnhdbnijlaa.unitP M L (f + 1) d k)
  namedP : ∀ d k, (Proofs.Ytkbglnhdbnijlaa.namedP M L f d k).Le (Proofs.Ytkbglnhdbnijlaa.namedP M L (f + 1) d k)
  wordedP : ∀ d k, (Proofs.Ytkbglnhdbnijlaa.wordedP M L f d k).Le (Proofs.Ytkbglnhdbnijlaa.wordedP M L (f + 1) d k)
  brackP : ∀ d k, (Proofs.Ytkbglnhdbnijlaa.brackP M L f d k).Le (Proofs.Ytkbglnhdbnijlaa.brackP M L (f + 1) d k)
  argsP : ∀ d k, (Proofs.Ytkbglnhdbnijlaa.argsP M L f d k).Le (Proofs.Ytkbglnhdbnijlaa.argsP M L (f + 1) d k)
  argsL : ∀ d acc k, (Proofs.Ytkbglnhdbnijlaa.argsL M L f d acc k).Le (Proofs.Ytkbglnhdbnijlaa.argsL M L (f + 1) d acc k)

theorem allLe : ∀ f, AllLe M L f := by
  intro f
  induction f with
  | zero =>
    constructor
    · intro d k; rw [Proofs.Ytkbglnhdbnijlaa.exprP]; exact Rs.Le.out _
    · intro op d k; rw [Proofs.Ytkbglnhdbnijlaa.bindP]; exact Rs.Le.out _
    · intro d k; rw [Proofs.Ytkbglnhdbnijlaa.ifP]; exact Rs.Le.out _
    · intro d k; rw [Proofs.Ytkbglnhdbnijlaa.caseP]; exact Rs.Le.out _
    · intro d k; rw [Proofs.Ytkbglnhdbnijlaa.consP]; exact Rs.Le.out _
    · intro d k; rw [Proofs.Ytkbglnhdbnijlaa.compP]; exact Rs.Le.out _
    · intro d k; rw [Proofs.Ytkbglnhdbnijlaa.sumP]; exact Rs.Le.out _
    · intro d a k; rw [Proofs.Ytkbglnhdbnijlaa.sumL]; exact Rs.Le.out _
    · intro d k; rw [Proofs.Ytkbglnhdbnijlaa.termP]; exact Rs.Le.out _
    · intro d a k; rw [Proofs.Ytkbglnhdbnijlaa.termL]; exact Rs.Le.out _
    · intro d k; rw [Proofs.Ytkbglnhdbnijlaa.unitP]; exact Rs.Le.out _
    · intro d k; rw [Proofs.Ytkbglnhdbnijlaa.namedP]; exact Rs.Le.out _
    · intro d k; rw [Proofs.Ytkbglnhdbnijlaa.wordedP]; exact Rs.Le.out _
    · intro d k; rw [Proofs.Ytkbglnhdbnijlaa.brackP]; exact Rs.Le.out _
    · intro d k; rw [Proofs.Ytkbglnhdbnijlaa.argsP]; exact Rs.Le.out _
    · intro d acc k; rw [Proofs.Ytkbglnhdbnijlaa.argsL]; exact Rs.Le.out _
  | succ f ih =>
    constructor
    · intro d k; rw [Proofs.Ytkbglnhdbnijlaa.exprP, Proofs.Ytkbglnhdbnijlaa.exprP]
      repeat' (first | exact Rs.Le.refl _ | exact ih.exprP _ _ | exact ih.bindP _ _ _ | exact ih.ifP _ _ | exact ih.caseP _ _ | exact ih.consP _ _ | exact ih.compP _ _ | exact ih.sumP _ _ | exact ih.sumL _ _ _ | exact ih.termP _ _ | exact ih.termL _ _ _ | exact ih.unitP _ _ | exact ih.namedP _ _ | exact ih.wordedP _ _ | exact ih.brackP _ _ | exact ih.argsP _ _ | exact ih.argsL _ _ _ | refine Rs.Le.ite ?_ ?_ | refine Rs.Le.bnd ?_ fun _ _ => ?_)
    · intro op d k; rw [Proofs.Ytkbglnhdbnijlaa.bindP, Proofs.Ytkbglnhdbnijlaa.bindP]
      repeat' (first | exact Rs.Le.refl _ | exact ih.exprP _ _ | exact ih.bindP _ _ _ | exact ih.ifP _ _ | exact ih.caseP _ _ | exact ih.consP _ _ | exact ih.compP _ _ | exact ih.sumP _ _ | exact ih.sumL _ _ _ | exact ih.termP _ _ | exact ih.termL _ _ _ | exact ih.unitP _ _ | exact ih.namedP _ _ | exact ih.wordedP _ _ | exact ih.brackP _ _ | exact ih.argsP _ _ | exact ih.argsL _ _ _ | refine Rs.Le.ite ?_ ?_ | refine Rs.Le.bnd ?_ fun _ _ => ?_)
    · intro d k; rw [Proofs.Ytkbglnhdbnijlaa.ifP, Proofs.Ytkbglnhdbnijlaa.ifP]
      repeat' (first | exact Rs.Le.refl _ | exact ih.exprP _ _ | exact ih.bindP _ _ _ | exact ih.ifP _ _ | exact ih.caseP _ _ | exact ih.consP _ _ | exact ih.compP _ _ | exact ih.sumP _ _ | exact ih.sumL _ _ _ | exact ih.termP _ _ | exact ih.termL _ _ _ | exact ih.unitP _ _ | exact ih.namedP _ _ | exact ih.wordedP _ _ | exact ih.brackP _ _ | exact ih.argsP _ _ | exact ih.argsL _ _ _ | refine Rs.Le.ite ?_ ?_ | refine Rs.Le.bnd ?_ fun _ _ => ?_)
    · intro d k; rw [Proofs.Ytkbglnhdbnijlaa.caseP, Proofs.Ytkbglnhdbnijlaa.caseP]
      repeat' (first | exact Rs.Le.refl _ | exact ih.exprP _ _ | exact ih.bindP _ _ _ | exact ih.ifP _ _ | exact ih.caseP _ _ | exact ih.consP _ _ | exact ih.compP _ _ | exact ih.sumP _ _ | exact ih.sumL _ _ _ | exact ih.termP _ _ | exact ih.termL _ _ _ | exact ih.unitP _ _ | exact ih.namedP _ _ | exact ih.wordedP _ _ | exact ih.brackP _ _ | exact ih.argsP _ _ | exact ih.argsL _ _ _ | refine Rs.Le.ite ?_ ?_ | refine Rs.Le.bnd ?_ fun _ _ => ?_)
    · intro d k; rw [Proofs.Ytkbglnhdbnijlaa.consP, Proofs.Ytkbglnhdbnijlaa.consP]
      repeat' (first | exact Rs.Le.refl _ | exact ih.exprP _ _ | exact ih.bindP _ _ _ | exact ih.ifP _ _ | exact ih.caseP _ _ | exact ih.consP _ _ | exact ih.compP _ _ | exact ih.sumP _ _ | exact ih.sumL _ _ _ | exact ih.termP _ _ | exact ih.termL _ _ _ | exact ih.unitP _ _ | exact ih.namedP _ _ | exact ih.wordedP _ _ | exact ih.brackP _ _ | exact ih.argsP _ _ | exact ih.argsL _ _ _ | refine Rs.Le.ite ?_ ?_ | refine Rs.Le.bnd ?_ fun _ _ => ?_)
    · intro d k; rw [Proofs.Ytkbglnhdbnijlaa.compP, Proofs.Ytkbglnhdbnijlaa.compP]
      repeat' (first | exact Rs.Le.refl _ | exact ih.exprP _ _ | exact ih.bindP _ _ _ | exact ih.ifP _ _ | exact ih.caseP _ _ | exact ih.consP _ _ | exact ih.compP _ _ | exact ih.sumP _ _ | exact ih.sumL _ _ _ | exact ih.termP _ _ | exact ih.termL _ _ _ | exact ih.unitP _ _ | exact ih.namedP _ _ | exact ih.wordedP _ _ | exact ih.brackP _ _ | exact ih.argsP _ _ | exact ih.argsL _ _ _ | refine Rs.Le.ite ?_ ?_ | refine Rs.Le.bnd ?_ fun _ _ => ?_)
    · intro d k; rw [Proofs.Ytkbglnhdbnijlaa.sumP, Proofs.Ytkbglnhdbnijlaa.sumP]
      repeat' (first | exact Rs.Le.refl _ | exact ih.exprP _ _ | exact ih.bindP _ _ _ | exact ih.ifP _ _ | exact ih.caseP _ _ | exact ih.consP _ _ | exact ih.compP _ _ | exact ih.sumP _ _ | exact ih.sumL _ _ _ | exact ih.termP _ _ | exact ih.termL _ _ _ | exact ih.unitP _ _ | exact ih.namedP _ _ | exact ih.wordedP _ _ | exact ih.brackP _ _ | exact ih.argsP _ _ | exact ih.argsL _ _ _ | refine Rs.Le.ite ?_ ?_ | refine Rs.Le.bnd ?_ fun _ _ => ?_)
    · intro d a k; rw [Proofs.Ytkbglnhdbnijlaa.sumL, Proofs.Ytkbglnhdbnijlaa.sumL]
      repeat' (first | exact Rs.Le.refl _ | exact ih.exprP _ _ | exact ih.bindP _ _ _ | exact ih.ifP _ _ | exact ih.caseP _ _ | exact ih.consP _ _ | exact ih.compP _ _ | exact ih.sumP _ _ | exact ih.sumL _ _ _ | exact ih.termP _ _ | exact ih.termL _ _ _ | exact ih.unitP _ _ | exact ih.namedP _ _ | exact ih.wordedP _ _ | exact ih.brackP _ _ | exact ih.argsP _ _ | exact ih.argsL _ _ _ | refine Rs.Le.ite ?_ ?_ | refine Rs.Le.bnd ?_ fun _ _ => ?_)
    · intro d k; rw [Proofs.Ytkbglnhdbnijlaa.termP, Proofs.Ytkbglnhdbnijlaa.termP]
      repeat' (first | exact Rs.Le.refl _ | exact ih.exprP _ _ | exact ih.bindP _ _ _ | exact ih.ifP _ _ | exact ih.caseP _ _ | exact ih.consP _ _ | exact ih.compP _ _ | exact ih.sumP _ _ | exact ih.sumL _ _ _ | exact ih.termP _ _ | exact ih.termL _ _ _ | exact ih.unitP _ _ | exact ih.namedP _ _ | exact ih.wordedP _ _ | exact ih.brackP _ _ | exact ih.argsP _ _ | exact ih.argsL _ _ _ | refine Rs.Le.ite ?_ ?_ | refine Rs.Le.bnd ?_ fun _ _ => ?_)
    · intro d a k; rw [Proofs.Ytkbglnhdbnijlaa.termL, Proofs.Ytkbglnhdbnijlaa.termL]
      repeat' (first | exact Rs.Le.refl _ | exact ih.exprP _ _ | exact ih.bindP _ _ _ | exact ih.ifP _ _ | exact ih.caseP _ _ | exact ih.consP _ _ | exact ih.compP _ _ | exact ih.sumP _ _ | exact ih.sumL _ _ _ | exact ih.termP _ _ | exact ih.termL _ _ _ | exact ih.unitP _ _ | exact ih.namedP _ _ | exact ih.wordedP _ _ | exact ih.brackP _ _ | exact ih.argsP _ _ | exact ih.argsL _ _ _ | refine Rs.Le.ite ?_ ?_ | refine Rs.Le.bnd ?_ fun _ _ => ?_)
    · intro d k; rw [Proofs.Ytkbglnhdbnijlaa.unitP, Proofs.Ytkbglnhdbnijlaa.unitP]
      repeat' (first | exact Rs.Le.refl _ | exact ih.exprP _ _ | exact ih.bindP _ _ _ | exact ih.ifP _ _ | exact ih.caseP _ _ | exact ih.consP _ _ | exact ih.compP _ _ | exact ih.sumP _ _ | exact ih.sumL _ _ _ | exact ih.termP _ _ | exact ih.termL _ _ _ | exact ih.unitP _ _ | exact ih.namedP _ _ | exact ih.wordedP _ _ | exact ih.brackP _ _ | exact ih.argsP _ _ | exact ih.argsL _ _ _ | refine Rs.Le.ite ?_ ?_ | refine Rs.Le.bnd ?_ fun _ _ => ?_)
    · intro d k; rw [Proofs.Ytkbglnhdbnijlaa.namedP, Proofs.Ytkbglnhdbnijlaa.namedP]
      repeat' (first | exact Rs.Le.refl _ | exact ih.exprP _ _ | exact ih.bindP _ _ _ | exact ih.ifP _ _ | exact ih.caseP _ _ | exact ih.consP _ _ | exact ih.compP _ _ | exact ih.sumP _ _ | exact ih.sumL _ _ _ | exact ih.termP _ _ | exact ih.termL _ _ _ | exact ih.unitP _ _ | exact ih.namedP _ _ | exact ih.wordedP _ _ | exact ih.brackP _ _ | exact ih.argsP _ _ | exact ih.argsL _ _ _ | refine Rs.Le.ite ?_ ?_ | refine Rs.Le.bnd ?_ fun _ _ => ?_)
    · intro d k; rw [Proofs.Ytkbglnhdbnijlaa.wordedP, Proofs.Ytkbglnhdbnijlaa.wordedP]
      repeat' (first | exact Rs.Le.refl _ | exact ih.exprP _ _ | exact ih.bindP _ _ _ | exact ih.ifP _ _ | exact ih.caseP _ _ | exact ih.consP _ _ | exact ih.compP _ _ | exact ih.sumP _ _ | exact ih.sumL _ _ _ | exact ih.termP _ _ | exact ih.termL _ _ _ | exact ih.unitP _ _ | exact ih.namedP _ _ | exact ih.wordedP _ _ | exact ih.brackP _ _ | exact ih.argsP _ _ | exact ih.argsL _ _ _ | refine Rs.Le.ite ?_ ?_ | refine Rs.Le.bnd ?_ fun _ _ => ?_)
    · intro d k; rw [Proofs.Ytkbglnhdbnijlaa.brackP, Proofs.Ytkbglnhdbnijlaa.brackP]
      repeat' (first | exact Rs.Le.refl _ | exact ih.exprP _ _ | exact ih.bindP _ _ _ | exact ih.ifP _ _ | exact ih.caseP _ _ | exact ih.consP _ _ | exact ih.compP _ _ | exact ih.sumP _ _ | exact ih.sumL _ _ _ | exact ih.termP _ _ | exact ih.termL _ _ _ | exact ih.unitP _ _ | exact ih.namedP _ _ | exact ih.wordedP _ _ | exact ih.brackP _ _ | exact ih.argsP _ _ | exact ih.argsL _ _ _ | refine Rs.Le.ite ?_ ?_ | refine Rs.Le.bnd ?_ fun _ _ => ?_)
    · intro d k; rw [Proofs.Ytkbglnhdbnijlaa.argsP, Proofs.Ytkbglnhdbnijlaa.argsP]
      repeat' (first | exact Rs.Le.refl _ | exact ih.exprP _ _ | exact ih.bindP _ _ _ | exact ih.ifP _ _ | exact ih.caseP _ _ | exact ih.consP _ _ | exact ih.compP _ _ | exact ih.sumP _ _ | exact ih.sumL _ _ _ | exact ih.termP _ _ | exact ih.termL _ _ _ | exact ih.unitP _ _ | exact ih.namedP _ _ | exact ih.wordedP _ _ | exact ih.brackP _ _ | exact ih.argsP _ _ | exact ih.argsL _ _ _ | refine Rs.Le.ite ?_ ?_ | refine Rs.Le.bnd ?_ fun _ _ => ?_)
    · intro d acc k; rw [Proofs.Ytkbglnhdbnijlaa.argsL, Proofs.Ytkbglnhdbnijlaa.argsL]
      repeat' (first | exact Rs.Le.refl _ | exact ih.exprP _ _ | exact ih.bindP _ _ _ | exact ih.ifP _ _ | exact ih.caseP _ _ | exact ih.consP _ _ | exact ih.compP _ _ | exact ih.sumP _ _ | exact ih.sumL _ _ _ | exact ih.termP _ _ | exact ih.termL _ _ _ | exact ih.unitP _ _ | exact ih.namedP _ _ | exact ih.wordedP _ _ | exact ih.brackP _ _ | exact ih.argsP _ _ | exact ih.argsL _ _ _ | refine Rs.Le.ite ?_ ?_ | refine Rs.Le.bnd ?_ fun _ _ => ?_)

theorem le_paramsL : ∀ f acc k, (paramsL M L f acc k).Le (paramsL M L (f + 1) acc k) := by
  intro f
  induction f with
  | zero => intro acc k; rw [paramsL]; exact Rs.Le.out _
  | succ f ih =>
    intro acc k
    rw [paramsL, paramsL]
    repeat' (first | exact Rs.Le.refl _ | exact ih _ _ | refine Rs.Le.ite ?_ ?_ | refine Rs.Le.bnd ?_ fun _ _ => ?_)
theorem le_params (f k : Nat) : (paramsP M L f k).Le (paramsP M L (f + 1) k) := by
  unfold paramsP
  repeat' (first | exact Rs.Le.refl _ | exact le_paramsL M L _ _ _ | refine Rs.Le.ite ?_ ?_ | refine Rs.Le.bnd ?_ fun _ _ => ?_)
theorem le_def (f n k : Nat) : (defP M L f n k).Le (defP M L (f + 1) n k) := by
  unfold defP
  repeat' (first | exact Rs.Le.refl _ | exact le_params M L _ _ | exact (allLe M L f).exprP _ _ | refine Rs.Le.ite ?_ ?_ | refine Rs.Le.bnd ?_ fun _ _ => ?_)
theorem le_prog : ∀ f acc k, (progL M L f acc k).Le (progL M L (f + 1) acc k) := by
  intro f
  induction f with
  | zero => intro acc k; rw [progL]; exact Rs.Le.out _
  | succ f ih =>
    intro acc k
    rw [progL, progL]
    repeat' (first | exact Rs.Le.refl _ | exact ih _ _ | exact le_def M L _ _ _ | refine Rs.Le.ite ?_ ?_ | refine Rs.Le.bnd ?_ fun _ _ => ?_)

theorem le_up {α : Type} {F : Nat → Rs α} (h : ∀ f, (F f).Le (F (f + 1))) {f g : Nat} (hg : f ≤ g) : (F f).Le (F g) := by
  induction g with
  | zero => rw [show f = 0 by omega]; exact Rs.Le.refl _
  | succ g ih =>
    by_cases e : f = g + 1
    · rw [e]; exact Rs.Le.refl _
    · exact (ih (by omega)).trans (h g)

/-- It holds from some fuel on. -/
def Ev (P : Nat → Prop) : Prop := ∃ f0, ∀ f, f0 ≤ f → P f
theorem Ev.all {P : Nat → Prop} (h : ∀ f, P f) : Ev P := ⟨0, fun f _ => h f⟩
theorem Ev.imp {P Q : Nat → Prop} (h : Ev P) (k : ∀ f, P f → Q f) : Ev Q := by
  obtain ⟨f0, h0⟩ := h
  exact ⟨f0, fun f hf => k f (h0 f hf)⟩
theorem Ev.and {P Q : Nat → Prop} (h : Ev P) (k : Ev Q) : Ev fun f => P f ∧ Q f := by
  obtain ⟨f0, h0⟩ := h
  obtain ⟨f1, h1⟩ := k
  exact ⟨max f0 f1, fun f hf => ⟨h0 f (by omega), h1 f (by omega)⟩⟩
/-- One more fuel. -/
theorem Ev.succ {P : Nat → Prop} (h : Ev fun f => P (f + 1)) : Ev P := by
  obtain ⟨f0, h0⟩ := h
  refine ⟨f0 + 1, fun f hf => ?_⟩
  have : P (f - 1 + 1) := h0 (f - 1) (by omega)
  rwa [show f - 1 + 1 = f by omega] at this
/-- What holds from some fuel on holds at each that was enough. -/
theorem at_ev {α : Type} {F : Nat → Rs α} (h : ∀ f, (F f).Le (F (f + 1))) {f : Nat} {r : Rs α} (hf : F f ≠ .out) (e : Ev fun g => F g = r) : F f = r := by
  obtain ⟨f0, h0⟩ := e
  rcases le_up h (Nat.le_max_left f f0) with k | k
  · exact absurd k hf
  · rw [k]; exact h0 _ (Nat.le_max_right _ _)
end
end Go.Proofs.Ytkbglnhdbnijlaa
/-
  A printed expression is read back, mark by mark, but for places. No dump.
-/
namespace Go.Proofs.Ytkbglnhdbnijlaa
set_option maxHeartbeats 2000000

def tt (_ _ : Nat) : Prop := True
def kwT (s : List UInt8) : Mk := ⟨1, s, 0, 0, 0⟩
def nmT (s : List UInt8) : Mk := ⟨0, s, 0, 0, 0⟩
def sgT (s : List UInt8) : Mk := ⟨3, s, 0, 0, 0⟩
def nuT (p q : Int) : Mk := ⟨2, txt p q, p, q, 0⟩

/-- From k on stand these marks, but for places. -/
def Ag (M : Nat → Mk) : Nat → List Mk → Prop
  | _, [] => True
  | k, t :: T => MR tt t (M k) ∧ Ag M (k + 1) T
theorem ag_app {M : Nat → Mk} : ∀ {S T : List Mk} {k : Nat}, Ag M k (S ++ T) ↔ Ag M k S ∧ Ag M (k + S.length) T
  | [], T, k => by simp [Ag]
  | s :: S, T, k => by
    rw [List.cons_append, Ag, Ag, ag_app (S := S), List.length_cons, show k + 1 + S.length = k + (S.length + 1) by omega]
    exact ⟨fun h => ⟨⟨h.1, h.2.1⟩, h.2.2⟩, fun h => ⟨h.1.1, h.1.2, h.2⟩⟩

/-! ## The marks of a text -/
def brT (l n : Int) (T : List Mk) : List Mk := if l < n then sgT [40] :: (T ++ [sgT [41]]) else T
def ptT (ps : List (Int × List Mk)) (i : Nat) (n : Int) : List Mk := if i < ps.length then brT (ps.getD i (0, [])).1 n (ps.getD i (0, [])).2 else []
def cmT : List (List Mk) → List Mk
  | [] => []
  | x :: xs => x ++ (xs.map fun y => sgT [44] :: y).flatten

def fmT (op : Int) (name tail : List UInt8) (ty p q : Int) (ps : List (Int × List Mk)) : List Mk :=
  if op = 1 then [nuT p q] else if op = 2 ∨ op = 3 ∨ op = 4 then [kwT (wordT op)] else if op = 5 then [kwT (wordT op), kwT (letT ty)] else if op = 6 then [nmT name] else
  if op = 7 then nmT name :: sgT [40] :: (cmT (ps.map (·.2)) ++ [sgT [41]]) else
  if op = 14 ∨ op = 15 ∨ op = 16 ∨ op = 17 then kwT (wordT op) :: sgT [40] :: (ptT ps 0 0 ++ [sgT [41]]) else
  if op = 18 ∨ op = 12 ∨ op = 13 ∨ op = 8 ∨ op = 9 ∨ op = 10 ∨ op = 11 then ptT ps 0 (loL op) ++ sgT (signT op) :: ptT ps 1 (roL op) else
  if op = 19 then kwT tIf :: (ptT ps 0 0 ++ kwT tThen :: (ptT ps 1 0 ++ kwT tElse :: ptT ps 2 0)) else
  if op = 21 ∨ op = 22 then kwT (wordT op) :: nmT name :: kwT (letT ty) :: sgT [61] :: (ptT ps 0 0 ++ kwT tIn :: ptT ps 1 0) else
  if op = 20 then kwT tCase :: (ptT ps 0 0 ++ kwT tOf :: kwT tNil :: sgT tArr :: (ptT ps 1 0 ++ sgT [124] :: nmT name :: sgT [58] :: nmT tail :: sgT tArr :: ptT ps 2 0)) else []
mutual
def tkE : Ex → List Mk
  | .mk op name tail ty p q xs _ => fmT op name tail ty p q (tkL xs)
def tkL : List Ex → List (Int × List Mk)
  | [] => []
  | x :: xs => (lvl x.op, tkE x) :: tkL xs
end
theorem tkE_mk (op : Int) (a b : List UInt8) (t p q : Int) (xs : List Ex) (i : Nat) : tkE (.mk op a b t p q xs i) = fmT op a b t p q (tkL xs) := by rw [tkE]
theorem tkL_nil : tkL [] = [] := by rw [tkL]
theorem tkL_cons (x : Ex) (xs : List Ex) : tkL (x :: xs) = (lvl x.op, tkE x) :: tkL xs := by rw [tkL]

/-! ## Reading -/
def g5 : List (List UInt8) := [[40]]
def g4 : List (List UInt8) := [42] :: [47] :: g5
def g3 : List (List UInt8) := [43] :: [45] :: g4
def g2 : List (List UInt8) := [61, 61] :: [60] :: g3
def g1 : List (List UInt8) := [58] :: g2
def Fol (g : List (List UInt8)) (m : Mk) : Prop := ∀ s ∈ g, m.text ≠ s
theorem Fol.tk {g : List (List UInt8)} {M : Nat → Mk} {k : Nat} (h : Fol g (M k)) {s : List UInt8} (hs : s ∈ g) : tk M s k = false := by
  unfold Proofs.Ytkbglnhdbnijlaa.tk
  have := h s hs
  simpa using this
theorem Fol.sub {g h : List (List UInt8)} {m : Mk} (k : Fol g m) (hs : ∀ s ∈ h, s ∈ g) : Fol h m := fun s e => k s (hs s e)
theorem mr_tk {t : Mk} {M : Nat → Mk} {k : Nat} (h : MR tt t (M k)) (s : List UInt8) : tk M s k = (t.text == s) := by unfold tk; rw [h.text]
theorem mr_must {t : Mk} {M : Nat → Mk} {k : Nat} (h : MR tt t (M k)) {s : List UInt8} (hs : t.text = s) : mustP M s k = .ok () (k + 1) := by
  unfold mustP
  rw [mr_tk h, hs, if_pos (by simp)]
theorem mr_fol {t : Mk} {m : Mk} (h : MR tt t m) {g : List (List UInt8)} (hf : Fol g t) : Fol g m := fun s hs => by rw [h.text]; exact hf s hs

/-- No word that opens a whole expression. -/
def NoKw (M : Nat → Mk) (k : Nat) : Prop := tk M tLet k = false ∧ tk M tStrict k = false ∧ tk M tIf k = false ∧ tk M tCase k = false

section
variable (T : List Mk) (e : Ex)
def Good5 : Prop := ∀ (M : Nat → Mk) (L : Lm) (d k : Nat), Ag M k T → (d : Int) + nE e ≤ L.n → Fol g5 (M (k + T.length)) → ∃ e', ExR tt e e' ∧ Ev fun f => unitP M L f d k = .ok e' (k + T.length)
def GoodT : Prop := ∀ (M : Nat → Mk) (L : Lm) (d k : Nat), Ag M k T → (d : Int) + nE e ≤ L.n → Fol g5 (M (k + T.length)) →
  ∃ e', ExR tt e e' ∧ ∀ r j, (Ev fun f => termL M L f d e' (k + T.length) = .ok r j) → Ev fun f => termP M L f d k = .ok r j
def Good4 : Prop := ∀ (M : Nat → Mk) (L : Lm) (d k : Nat), Ag M k T → (d : Int) + nE e ≤ L.n → Fol g4 (M (k + T.length)) → ∃ e', ExR tt e e' ∧ Ev fun f => termP M L f d k = .ok e' (k + T.length)
def GoodS : Prop := ∀ (M : Nat → Mk) (L : Lm) (d k : Nat), Ag M k T → (d : Int) + nE e ≤ L.n → Fol g4 (M (k + T.length)) →
  ∃ e', ExR tt e e' ∧ ∀ r j, (Ev fun f => sumL M L f d e' (k + T.length) = .ok r j) → Ev fun f => sumP M L f d k = .ok r j
def Good3 : Prop := ∀ (M : Nat → Mk) (L : Lm) (d k : Nat), Ag M k T → (d : Int) + nE e ≤ L.n → Fol g3 (M (k + T.length)) → ∃ e', ExR tt e e' ∧ Ev fun f => sumP M L f d k = .ok e' (k + T.length)
def Good2 : Prop := ∀ (M : Nat → Mk) (L : Lm) (d k : Nat), Ag M k T → (d : Int) + nE e ≤ L.n → Fol g2 (M (k + T.length)) → ∃ e', ExR tt e e' ∧ Ev fun f => compP M L f d k = .ok e' (k + T.length)
def Good1 : Prop := ∀ (M : Nat → Mk) (L : Lm) (d k : Nat), Ag M k T → (d : Int) + nE e ≤ L.n → Fol g1 (M (k + T.length)) → NoKw M k ∧ ∃ e', ExR tt e e' ∧ Ev fun f => consP M L f d k = .ok e' (k + T.length)
def Good0 : Prop := ∀ (M : Nat → Mk) (L : Lm) (d k : Nat), Ag M k T → (d : Int) + nE e ≤ L.n → Fol g1 (M (k + T.length)) → ∃ e', ExR tt e e' ∧ Ev fun f => exprP M L f d k = .ok e' (k + T.length)
def Hdk : Prop := ∀ (M : Nat → Mk) (k : Nat), Ag M k T → NoKw M k
end

variable {T : List Mk} {e : Ex}
theorem good5_T (h : Good5 T e) : GoodT T e := by
  intro M L d k ha hn hf
  obtain ⟨e', hr, he⟩ := h M L d k ha hn hf
  refine ⟨e', hr, fun r j hk => Ev.succ ((he.and hk).imp fun f h => ?_)⟩
  rw [termP, h.1]
  exact h.2
theorem goodT_4 (h : GoodT T e) : Good4 T e := by
  intro M L d k ha hn hf
  obtain ⟨e', hr, he⟩ := h M L d k ha hn (hf.sub (by simp [g4, g5]))
  refine ⟨e', hr, he _ _ (Ev.succ (Ev.all fun f => ?_))⟩
  rw [termL, hf.tk (s := [42]) (by simp [g4]), hf.tk (s := [47]) (by simp [g4])]
  rfl
theorem good4_S (h : Good4 T e) : GoodS T e := by
  intro M L d k ha hn hf
  obtain ⟨e', hr, he⟩ := h M L d k ha hn hf
  refine ⟨e', hr, fun r j hk => Ev.succ ((he.and hk).imp fun f h => ?_)⟩
  rw [sumP, h.1]
  exact h.2
theorem goodS_3 (h : GoodS T e) : Good3 T e := by
  intro M L d k ha hn hf
  obtain ⟨e', hr, he⟩ := h M L d k ha hn (hf.sub (by simp [g3, g4, g5]))
  refine ⟨e', hr, he _ _ (Ev.succ (Ev.all fun f => ?_))⟩
  rw [sumL, hf.tk (s := [43]) (by simp [g3]), hf.tk (s := [45]) (by simp [g3])]
  rfl
theorem good3_2 (h : Good3 T e) : Good2 T e := by
  intro M L d k ha hn hf
  obtain ⟨e', hr, he⟩ := h M L d k ha hn (hf.sub (by simp [g2, g3, g4, g5]))
  refine ⟨e', hr, Ev.succ (he.imp fun f h => ?_)⟩
  rw [compP, h]
  show (if tk M [61, 61] _ = true then _ else _) = _
  rw [hf.tk (s := [61, 61]) (by simp [g2]), hf.tk (s := [60]) (by simp [g2])]
  rfl
theorem good2_1 (h : Good2 T e) (hk : Hdk T) : Good1 T e := by
  intro M L d k ha hn hf
  obtain ⟨e', hr, he⟩ := h M L d k ha hn (hf.sub (by simp [g1, g2, g3, g4, g5]))
  refine ⟨hk M k ha, e', hr, Ev.succ (he.imp fun f h => ?_)⟩
  rw [consP, h]
  show (if tk M [58] _ = true then _ else _) = _
  rw [hf.tk (s := [58]) (by simp [g1])]
  rfl
theorem good1_0 (h : Good1 T e) : Good0 T e := by
  intro M L d k ha hn hf
  obtain ⟨⟨h1, h2, h3, h4⟩, e', hr, he⟩ := h M L d k ha hn hf
  refine ⟨e', hr, Ev.succ (he.imp fun f h => ?_)⟩
  rw [exprP, h1, h2, h3, h4]
  exact h

/-- Read at its level, and wherever less is wanted. -/
structure Lv (T : List Mk) (e : Ex) (l : Int) : Prop where
  g5 : 5 ≤ l → Good5 T e
  gT : 4 ≤ l → GoodT T e
  gS : 3 ≤ l → GoodS T e
  g2 : 2 ≤ l → Good2 T e
  g1 : 1 ≤ l → Good1 T e
  hd : 1 ≤ l → Hdk T
  g0 : Good0 T e
theorem Lv.g4 {l : Int} (h : Lv T e l) (hl : 4 ≤ l) : Good4 T e := goodT_4 (h.gT hl)
theorem Lv.g3 {l : Int} (h : Lv T e l) (hl : 3 ≤ l) : Good3 T e := goodS_3 (h.gS hl)
theorem lv5 (h : Good5 T e) (hk : Hdk T) (l : Int) : Lv T e l := by
  have a := good5_T h
  have b := good4_S (goodT_4 a)
  have c := good3_2 (goodS_3 b)
  have d := good2_1 c hk
  exact ⟨fun _ => h, fun _ => a, fun _ => b, fun _ => c, fun _ => d, fun _ => hk, good1_0 d⟩
theorem lv4 (h : GoodT T e) (hk : Hdk T) : Lv T e 4 := by
  have b := good4_S (goodT_4 h)
  have c := good3_2 (goodS_3 b)
  have d := good2_1 c hk
  exact ⟨fun h => absurd h (by decide), fun _ => h, fun _ => b, fun _ => c, fun _ => d, fun _ => hk, good1_0 d⟩
theorem lv3 (h : GoodS T e) (hk : Hdk T) : Lv T e 3 := by
  have c := good3_2 (goodS_3 h)
  have d := good2_1 c hk
  exact ⟨fun h => absurd h (by decide), fun h => absurd h (by decide), fun _ => h, fun _ => c, fun _ => d, fun _ => hk, good1_0 d⟩
theorem lv2 (h : Good2 T e) (hk : Hdk T) : Lv T e 2 := by
  have d := good2_1 h hk
  exact ⟨fun h => absurd h (by decide), fun h => absurd h (by decide), fun h => absurd h (by decide), fun _ => h, fun _ => d, fun _ => hk, good1_0 d⟩
theorem lv1 (h : Good1 T e) (hk : Hdk T) : Lv T e 1 :=
  ⟨fun h => absurd h (by decide), fun h => absurd h (by decide), fun h => absurd h (by decide), fun h => absurd h (by decide), fun _ => h, fun _ => hk, good1_0 h⟩
theorem lv0 (h : Good0 T e) : Lv T e 0 :=
  ⟨fun h => absurd h (by decide), fun h => absurd h (by decide), fun h => absurd h (by decide), fun h => absurd h (by decide), fun h => absurd h (by decide), fun h => absurd h (by decide), h⟩

/-- In brackets it is a unit. -/
theorem good_br (h : Good0 T e) : Good5 (sgT [40] :: (T ++ [sgT [41]])) e := by
  intro M L d k ha hn _
  obtain ⟨h0, ha⟩ := ha
  rw [ag_app] at ha
  obtain ⟨ha, h9, _⟩ := ha
  obtain ⟨e', hr, he⟩ := h M L d (k + 1) ha hn (mr_fol h9 (by unfold Fol; decide))
  refine ⟨e', hr, Ev.succ (Ev.succ (he.imp fun f h => ?_))⟩
  rw [unitP, h0.kind, if_neg (by decide), if_neg (by decide), if_neg (by decide), brackP, mr_must (s := [40]) h0 rfl]
  show (Rs.bind (exprP M L f d (k + 1)) _) = _
  rw [h]
  show (Rs.bind (mustP M [41] (k + 1 + T.length)) _) = _
  rw [mr_must (s := [41]) h9 rfl]
  show Rs.ok _ _ = _
  congr 1
  simp only [List.length_cons, List.length_append, List.length_nil]
  omega
theorem hdk_sg (S : List Mk) : Hdk (sgT [40] :: S) := by
  intro M k h
  obtain ⟨h0, _⟩ := h
  unfold NoKw
  rw [mr_tk h0, mr_tk h0, mr_tk h0, mr_tk h0]
  decide
theorem lv_br {l : Int} (h : Lv T e l) (n : Int) : Lv (brT l n T) e (if l < n then 5 else l) := by
  unfold brT
  split
  · exact lv5 (good_br h.g0) (hdk_sg _) 5
  · exact h
theorem lv_le {l : Int} (n : Int) (hn : n ≤ 5) : n ≤ (if l < n then 5 else l) := by split <;> omega
end Go.Proofs.Ytkbglnhdbnijlaa
/-
  A printed expression is read back: by each operation. No dump.
-/
namespace Go.Proofs.Ytkbglnhdbnijlaa
set_option maxHeartbeats 2000000

/-- A product. -/
theorem good_mul {op : Int} {s : List UInt8} (hop : (op = 10 ∧ s = [42]) ∨ (op = 11 ∧ s = [47])) {A B : List Mk} {a b : Ex} {i : Nat} (h1 : GoodT A a) (h2 : Good5 B b) : GoodT (A ++ sgT s :: B) (.mk op [] [] 0 0 0 [a, b] i) := by
  intro M L d k ha hn hf
  rw [ag_app] at ha
  obtain ⟨ha, hs, hb⟩ := ha
  rw [nE_mk, nL_cons, nL_cons, nL_nil] at hn
  obtain ⟨a', ra, ka⟩ := h1 M L d k ha (by omega) (mr_fol hs (by rcases hop with ⟨_, rfl⟩ | ⟨_, rfl⟩ <;> (unfold Fol; decide)))
  have el : k + (A ++ sgT s :: B).length = k + A.length + 1 + B.length := by simp; omega
  rw [el] at hf ⊢
  obtain ⟨b', rb, kb⟩ := h2 M L d (k + A.length + 1) hb (by omega) hf
  refine ⟨_, .mk (j := (M (k + A.length)).at_) trivial (.cons ra (.cons rb .nil)), fun r j hk => ka r j (Ev.succ ((kb.and hk).imp fun f h => ?_))⟩
  have t := mr_tk hs
  rw [termL]
  rcases hop with ⟨rfl, rfl⟩ | ⟨rfl, rfl⟩
  · rw [if_pos (by rw [t]; rfl), h.1]
    exact h.2
  · rw [if_neg (by rw [t]; decide), if_pos (by rw [t]; rfl), h.1]
    exact h.2
/-- A sum. -/
theorem good_add {op : Int} {s : List UInt8} (hop : (op = 8 ∧ s = [43]) ∨ (op = 9 ∧ s = [45])) {A B : List Mk} {a b : Ex} {i : Nat} (h1 : GoodS A a) (h2 : Good4 B b) : GoodS (A ++ sgT s :: B) (.mk op [] [] 0 0 0 [a, b] i) := by
  intro M L d k ha hn hf
  rw [ag_app] at ha
  obtain ⟨ha, hs, hb⟩ := ha
  rw [nE_mk, nL_cons, nL_cons, nL_nil] at hn
  obtain ⟨a', ra, ka⟩ := h1 M L d k ha (by omega) (mr_fol hs (by rcases hop with ⟨_, rfl⟩ | ⟨_, rfl⟩ <;> (unfold Fol; decide)))
  have el : k + (A ++ sgT s :: B).length = k + A.length + 1 + B.length := by simp; omega
  rw [el] at hf ⊢
  obtain ⟨b', rb, kb⟩ := h2 M L d (k + A.length + 1) hb (by omega) hf
  refine ⟨_, .mk (j := (M (k + A.length)).at_) trivial (.cons ra (.cons rb .nil)), fun r j hk => ka r j (Ev.succ ((kb.and hk).imp fun f h => ?_))⟩
  have t := mr_tk hs
  rw [sumL]
  rcases hop with ⟨rfl, rfl⟩ | ⟨rfl, rfl⟩
  · rw [if_pos (by rw [t]; rfl), h.1]
    exact h.2
  · rw [if_neg (by rw [t]; decide), if_pos (by rw [t]; rfl), h.1]
    exact h.2
/-- A comparison. -/
theorem good_cmp {op : Int} {s : List UInt8} (hop : (op = 12 ∧ s = [61, 61]) ∨ (op = 13 ∧ s = [60])) {A B : List Mk} {a b : Ex} {i : Nat} (h1 : Good3 A a) (h2 : Good3 B b) : Good2 (A ++ sgT s :: B) (.mk op [] [] 0 0 0 [a, b] i) := by
  intro M L d k ha hn hf
  rw [ag_app] at ha
  obtain ⟨ha, hs, hb⟩ := ha
  rw [nE_mk, nL_cons, nL_cons, nL_nil] at hn
  obtain ⟨a', ra, ka⟩ := h1 M L d k ha (by omega) (mr_fol hs (by rcases hop with ⟨_, rfl⟩ | ⟨_, rfl⟩ <;> (unfold Fol; decide)))
  have el : k + (A ++ sgT s :: B).length = k + A.length + 1 + B.length := by simp; omega
  rw [el] at hf ⊢
  obtain ⟨b', rb, kb⟩ := h2 M L d (k + A.length + 1) hb (by omega) (hf.sub (by simp [g2, g3, g4, g5]))
  refine ⟨_, .mk (j := (M (k + A.length)).at_) trivial (.cons ra (.cons rb .nil)), Ev.succ ((ka.and kb).imp fun f h => ?_)⟩
  have t := mr_tk hs
  rw [compP, h.1]
  show (if tk M [61, 61] (k + A.length) = true then _ else _) = _
  rcases hop with ⟨rfl, rfl⟩ | ⟨rfl, rfl⟩
  · rw [if_pos (by rw [t]; rfl), h.2]
    rfl
  · rw [if_neg (by rw [t]; decide), if_pos (by rw [t]; rfl), h.2]
    rfl
/-- A cons. -/
theorem good_cons {A B : List Mk} {a b : Ex} {i : Nat} (h1 : Good2 A a) (h2 : Good1 B b) (hk : Hdk (A ++ sgT [58] :: B)) : Good1 (A ++ sgT [58] :: B) (.mk 18 [] [] 0 0 0 [a, b] i) := by
  intro M L d k ha hn hf
  refine ⟨hk M k ha, ?_⟩
  rw [ag_app] at ha
  obtain ⟨ha, hs, hb⟩ := ha
  rw [nE_mk, nL_cons, nL_cons, nL_nil] at hn
  obtain ⟨a', ra, ka⟩ := h1 M L d k ha (by omega) (mr_fol hs (by unfold Fol; decide))
  have el : k + (A ++ sgT [58] :: B).length = k + A.length + 1 + B.length := by simp; omega
  rw [el] at hf ⊢
  obtain ⟨_, b', rb, kb⟩ := h2 M L d (k + A.length + 1) hb (by omega) hf
  refine ⟨_, .mk (j := (M (k + A.length)).at_) trivial (.cons ra (.cons rb .nil)), Ev.succ ((ka.and kb).imp fun f h => ?_)⟩
  rw [consP, h.1]
  show (if tk M [58] (k + A.length) = true then _ else _) = _
  rw [if_pos (by rw [mr_tk hs]; rfl), h.2]
  rfl

theorem hdk_app {A B : List Mk} (h : Hdk A) : Hdk (A ++ B) := by
  intro M k ha
  rw [ag_app] at ha
  exact h M k ha.1
/-- A mark whose text is none of the four words. -/
theorem hdk_one {t : Mk} {S : List Mk} (h1 : t.text ≠ tLet) (h2 : t.text ≠ tStrict) (h3 : t.text ≠ tIf) (h4 : t.text ≠ tCase) : Hdk (t :: S) := by
  intro M k h
  obtain ⟨h0, _⟩ := h
  unfold NoKw
  rw [mr_tk h0, mr_tk h0, mr_tk h0, mr_tk h0]
  simp [h1, h2, h3, h4]

/-! ## Units -/
theorem good_num (p q : Int) (i : Nat) : Good5 [nuT p q] (.mk 1 [] [] 0 p q [] i) := by
  intro M L d k ha _ _
  obtain ⟨h, _⟩ := ha
  refine ⟨_, .mk (j := (M k).at_) trivial .nil, Ev.succ (Ev.all fun f => ?_)⟩
  have hkd : (M k).kind = 2 := h.kind
  rw [unitP, hkd, if_pos rfl, h.p, h.q]
  rfl
theorem good_var (x : List UInt8) (i : Nat) : Good5 [nmT x] (.mk 6 x [] 0 0 0 [] i) := by
  intro M L d k ha _ hf
  obtain ⟨h, _⟩ := ha
  refine ⟨_, .mk (j := (M k).at_) trivial .nil, Ev.succ (Ev.succ (Ev.all fun f => ?_))⟩
  have hkd : (M k).kind = 0 := h.kind
  rw [unitP, hkd, if_neg (by decide), if_pos rfl, namedP, if_neg (by rw [show k + 1 = k + [nmT x].length from rfl, hf.tk (by simp [g5])]; decide), h.text]
  rfl
theorem wordOp_wordT {op : Int} (h : op = 2 ∨ op = 3 ∨ op = 4 ∨ op = 5 ∨ op = 14 ∨ op = 15 ∨ op = 16 ∨ op = 17) : wordOp (wordT op) = op := by
  rcases h with rfl | rfl | rfl | rfl | rfl | rfl | rfl | rfl <;> decide
theorem good_word {op : Int} (ho : op = 2 ∨ op = 3 ∨ op = 4) (i : Nat) : Good5 [kwT (wordT op)] (.mk op [] [] 0 0 0 [] i) := by
  intro M L d k ha _ _
  obtain ⟨h, _⟩ := ha
  have hw : wordOp (M k).text = op := by rw [h.text]; exact wordOp_wordT (by omega)
  refine ⟨_, .mk (j := (M k).at_) trivial .nil, Ev.succ (Ev.succ (Ev.all fun f => ?_))⟩
  have hkd : (M k).kind = 1 := h.kind
  rw [unitP, hkd, if_neg (by decide), if_neg (by decide), if_pos rfl, wordedP, hw, if_neg (by omega), if_neg (by omega), if_neg (by omega)]
  rfl
theorem type_of {M : Nat → Mk} {k : Nat} {ty : Int} (h : MR tt (kwT (letT ty)) (M k)) (ht : ty = 1 ∨ ty = 2 ∨ ty = 3) : typeP M k = .ok ty (k + 1) := by
  unfold typeP
  rw [mr_tk h, mr_tk h, mr_tk h]
  rcases ht with rfl | rfl | rfl <;> rfl
theorem good_fail {ty : Int} (ht : ty = 1 ∨ ty = 2 ∨ ty = 3) (i : Nat) : Good5 [kwT (wordT 5), kwT (letT ty)] (.mk 5 [] [] ty 0 0 [] i) := by
  intro M L d k ha _ _
  obtain ⟨h, h1, _⟩ := ha
  have hw : wordOp (M k).text = 5 := by rw [h.text]; exact wordOp_wordT (op := 5) (by omega)
  refine ⟨_, .mk (j := (M k).at_) trivial .nil, Ev.succ (Ev.succ (Ev.all fun f => ?_))⟩
  have hkd : (M k).kind = 1 := h.kind
  rw [unitP, hkd, if_neg (by decide), if_neg (by decide), if_pos rfl, wordedP, hw, if_neg (by omega), if_pos rfl, type_of h1 ht]
  rfl
theorem good_one {op : Int} (ho : op = 14 ∨ op = 15 ∨ op = 16 ∨ op = 17) {A : List Mk} {a : Ex} (h1 : Good0 A a) (i : Nat) : Good5 (kwT (wordT op) :: sgT [40] :: (A ++ [sgT [41]])) (.mk op [] [] 0 0 0 [a] i) := by
  intro M L d k ha hn _
  obtain ⟨h, h0, ha⟩ := ha
  rw [ag_app] at ha
  obtain ⟨ha, h9, _⟩ := ha
  rw [nE_mk, nL_cons, nL_nil] at hn
  obtain ⟨a', ra, ka⟩ := h1 M L d (k + 1 + 1) ha (by omega) (mr_fol h9 (by unfold Fol; decide))
  have hw : wordOp (M k).text = op := by rw [h.text]; exact wordOp_wordT (by omega)
  refine ⟨_, .mk (j := (M k).at_) trivial (.cons ra .nil), Ev.succ (Ev.succ (Ev.succ (ka.imp fun f g => ?_)))⟩
  have hkd : (M k).kind = 1 := h.kind
  rw [unitP, hkd, if_neg (by decide), if_neg (by decide), if_pos rfl, wordedP, hw, if_neg (by omega), if_neg (by omega), if_pos (by omega), brackP, mr_must (s := [40]) h0 rfl]
  show Rs.bind (Rs.bind (exprP M L f d (k + 1 + 1)) _) _ = _
  rw [g]
  show Rs.bind (Rs.bind (mustP M [41] (k + 1 + 1 + A.length)) _) _ = _
  rw [mr_must (s := [41]) h9 rfl]
  show Rs.ok _ _ = _
  congr 1
  simp only [List.length_cons, List.length_append, List.length_nil]
  omega

/-- The arguments that are left, behind some. -/
theorem good_args : ∀ (xs : List Ex) (Ts : List (List Mk)), LiR (fun T x => Good0 T x) Ts xs → ∀ (M : Nat → Mk) (L : Lm) (d k : Nat) (acc acc' : List Ex), ExsR tt acc acc' →
    Ag M k ((Ts.map fun y => sgT [44] :: y).flatten ++ [sgT [41]]) → (d : Int) + nL xs ≤ L.n →
    ∃ l, ExsR tt (acc ++ xs) l ∧ Ev fun f => argsL M L f d acc' k = .ok l (k + ((Ts.map fun y => sgT [44] :: y).flatten ++ [sgT [41]]).length)
  | [], _, h, M, L, d, k, acc, acc', hr, ha, _ => by
    cases h
    obtain ⟨h9, _⟩ := ha
    refine ⟨acc', by rw [List.append_nil]; exact hr, Ev.succ (Ev.all fun f => ?_)⟩
    rw [argsL, if_neg (by rw [mr_tk h9]; decide), mr_must (s := [41]) h9 rfl]
    rfl
  | x :: xs, _, h, M, L, d, k, acc, acc', hr, ha, hn => by
    cases h with
    | cons h1 h2 =>
      rename_i T Ts
      rw [List.map_cons, List.flatten_cons, List.cons_append, List.cons_append, List.append_assoc] at ha ⊢
      obtain ⟨h0, ha⟩ := ha
      rw [ag_app] at ha
      obtain ⟨ha, hb⟩ := ha
      rw [nL_cons] at hn
      have hfo : Fol g1 (M (k + 1 + T.length)) := by
        cases Ts with
        | nil => exact mr_fol hb.1 (by unfold Fol; decide)
        | cons t ts => exact mr_fol hb.1 (by unfold Fol; decide)
      obtain ⟨x', rx, kx⟩ := h1 M L d (k + 1) ha (by omega) hfo
      obtain ⟨l, rl, kl⟩ := good_args xs Ts h2 M L d (k + 1 + T.length) (acc ++ [x]) (acc' ++ [x']) (hr.snoc rx) hb (by omega)
      refine ⟨l, by rw [List.append_assoc] at rl; exact rl, Ev.succ ((kx.and kl).imp fun f g => ?_)⟩
      rw [argsL, if_pos (by rw [mr_tk h0]; rfl), g.1]
      refine g.2.trans ?_
      congr 1
      simp only [List.length_cons, List.length_append]
      omega
theorem good_call {x : List UInt8} (xs : List Ex) (Ts : List (List Mk)) (h : LiR (fun T x => Good0 T x) Ts xs) (hne : ∀ T ∈ Ts, ∀ M k, Ag M k T → tk M [41] k = false ∧ T ≠ []) (i : Nat) : Good5 (nmT x :: sgT [40] :: (cmT Ts ++ [sgT [41]])) (.mk 7 x [] 0 0 0 xs i) := by
  intro M L d k ha hn _
  obtain ⟨h0, h1, ha⟩ := ha
  have hkd : (M k).kind = 0 := h0.kind
  rw [nE_mk] at hn
  cases h with
  | nil =>
    obtain ⟨h9, _⟩ := ha
    refine ⟨_, .mk (j := (M k).at_) trivial .nil, Ev.succ (Ev.succ (Ev.succ (Ev.all fun f => ?_)))⟩
    rw [unitP, hkd, if_neg (by decide), if_pos rfl, namedP, if_pos (by rw [mr_tk h1]; rfl), argsP, if_pos (by rw [mr_tk h9]; rfl), h0.text]
    rfl
  | cons k1 k2 =>
    rename_i T y Ts ys _
    rw [show cmT (T :: Ts) = T ++ (Ts.map fun y => sgT [44] :: y).flatten from rfl, List.append_assoc] at ha ⊢
    have hz := hne T (List.mem_cons_self ..) M (k + 1 + 1)
    rw [ag_app] at ha
    obtain ⟨ha, hb⟩ := ha
    rw [nL_cons] at hn
    have hfo : Fol g1 (M (k + 1 + 1 + T.length)) := by
      cases Ts with
      | nil => exact mr_fol hb.1 (by unfold Fol; decide)
      | cons t ts => exact mr_fol hb.1 (by unfold Fol; decide)
    obtain ⟨x', rx, kx⟩ := k1 M L d (k + 1 + 1) ha (by omega) hfo
    obtain ⟨l, rl, kl⟩ := good_args ys Ts k2 M L d (k + 1 + 1 + T.length) [y] [x'] (.cons rx .nil) hb (by omega)
    refine ⟨_, .mk (j := (M k).at_) trivial rl, Ev.succ (Ev.succ (Ev.succ ((kx.and kl).imp fun f g => ?_)))⟩
    rw [unitP, hkd, if_neg (by decide), if_pos rfl, namedP, if_pos (by rw [mr_tk h1]; rfl), argsP, if_neg (by rw [show k + 2 = k + 1 + 1 from rfl, (hz ha).1]; decide), h0.text, show k + 2 = k + 1 + 1 from rfl, g.1]
    show Rs.bind (argsL M L f d [x'] (k + 1 + 1 + T.length)) _ = _
    rw [g.2]
    show Rs.ok _ _ = _
    congr 1
    simp only [List.length_cons, List.length_append]
    omega

/-! ## Words with parts -/
theorem bind_ok5 {α β : Type} {r : Rs α} {a : α} {k : Nat} (h : r = .ok a k) (g : α → Nat → Rs β) : r.bind g = g a k := by rw [h]; rfl
theorem name_of {M : Nat → Mk} {k : Nat} {x : List UInt8} (h : MR tt (nmT x) (M k)) : nameP M k = .ok (M k) (k + 1) := by
  have hk : (M k).kind = 0 := h.kind
  unfold nameP
  rw [hk, if_pos rfl]
theorem good_if {A B C : List Mk} {a b c : Ex} (h1 : Good0 A a) (h2 : Good0 B b) (h3 : Good0 C c) (i : Nat) : Good0 (kwT tIf :: (A ++ kwT tThen :: (B ++ kwT tElse :: C))) (.mk 19 [] [] 0 0 0 [a, b, c] i) := by
  intro M L d k ha hn hf
  obtain ⟨h0, ha⟩ := ha
  rw [ag_app, Ag, ag_app, Ag] at ha
  obtain ⟨ha, ht, hb, he, hc⟩ := ha
  rw [nE_mk, nL_cons, nL_cons, nL_cons, nL_nil] at hn
  have el : k + (kwT tIf :: (A ++ kwT tThen :: (B ++ kwT tElse :: C))).length = k + 1 + A.length + 1 + B.length + 1 + C.length := by simp; omega
  rw [el] at hf ⊢
  obtain ⟨a', ra, ka⟩ := h1 M L d _ ha (by omega) (mr_fol ht (by unfold Fol; decide))
  obtain ⟨b', rb, kb⟩ := h2 M L d _ hb (by omega) (mr_fol he (by unfold Fol; decide))
  obtain ⟨c', rc, kc⟩ := h3 M L d _ hc (by omega) hf
  refine ⟨_, .mk (j := (M k).at_) trivial (.cons ra (.cons rb (.cons rc .nil))), Ev.succ (Ev.succ ((ka.and (kb.and kc)).imp fun f g => ?_))⟩
  rw [exprP, if_neg (by rw [mr_tk h0]; decide), if_neg (by rw [mr_tk h0]; decide), if_pos (by rw [mr_tk h0]; rfl), ifP, bind_ok5 g.1, bind_ok5 (mr_must (s := tThen) ht rfl), bind_ok5 g.2.1, bind_ok5 (mr_must (s := tElse) he rfl), bind_ok5 g.2.2]
theorem good_bind {op : Int} (ho : op = 21 ∨ op = 22) {x : List UInt8} {ty : Int} (ht : ty = 1 ∨ ty = 2 ∨ ty = 3) {A B : List Mk} {a b : Ex} (h1 : Good0 A a) (h2 : Good0 B b) (i : Nat) :
    Good0 (kwT (wordT op) :: nmT x :: kwT (letT ty) :: sgT [61] :: (A ++ kwT tIn :: B)) (.mk op x [] ty 0 0 [a, b] i) := by
  intro M L d k ha hn hf
  obtain ⟨h0, hx, hy, hq, ha⟩ := ha
  rw [ag_app, Ag] at ha
  obtain ⟨ha, hi, hb⟩ := ha
  rw [nE_mk, nL_cons, nL_cons, nL_nil, if_pos (by omega)] at hn
  have el : k + (kwT (wordT op) :: nmT x :: kwT (letT ty) :: sgT [61] :: (A ++ kwT tIn :: B)).length = k + 1 + 1 + 1 + 1 + A.length + 1 + B.length := by simp; omega
  rw [el] at hf ⊢
  obtain ⟨a', ra, ka⟩ := h1 M L (d + 1) _ ha (by omega) (mr_fol hi (by unfold Fol; decide))
  obtain ⟨b', rb, kb⟩ := h2 M L (d + 1) _ hb (by omega) hf
  have hz : ∀ f, exprP M L f (d + 1) (k + 1 + 1 + 1 + 1) = .ok a' (k + 1 + 1 + 1 + 1 + A.length) → exprP M L f (d + 1) (k + 1 + 1 + 1 + 1 + A.length + 1) = .ok b' (k + 1 + 1 + 1 + 1 + A.length + 1 + B.length) →
      bindP M L (f + 1) op d k = .ok (.mk op x [] ty 0 0 [a', b'] (M k).at_) (k + 1 + 1 + 1 + 1 + A.length + 1 + B.length) := fun f e1 e2 => by
    rw [bindP, if_neg (by omega), bind_ok5 (name_of hx), bind_ok5 (type_of hy ht), bind_ok5 (mr_must (s := [61]) hq rfl), bind_ok5 e1, bind_ok5 (mr_must (s := tIn) hi rfl), bind_ok5 e2, hx.text]
    rfl
  refine ⟨_, .mk (j := (M k).at_) trivial (.cons ra (.cons rb .nil)), Ev.succ (Ev.succ ((ka.and kb).imp fun f g => ?_))⟩
  rw [exprP]
  rcases ho with rfl | rfl
  · rw [if_pos (by rw [mr_tk h0]; rfl)]
    exact hz f g.1 g.2
  · rw [if_neg (by rw [mr_tk h0]; decide), if_pos (by rw [mr_tk h0]; rfl)]
    exact hz f g.1 g.2
theorem good_case {x y : List UInt8} {A B C : List Mk} {a b c : Ex} (h1 : Good0 A a) (h2 : Good0 B b) (h3 : Good0 C c) (i : Nat) :
    Good0 (kwT tCase :: (A ++ kwT tOf :: kwT tNil :: sgT tArr :: (B ++ sgT [124] :: nmT x :: sgT [58] :: nmT y :: sgT tArr :: C))) (.mk 20 x y 0 0 0 [a, b, c] i) := by
  intro M L d k ha hn hf
  obtain ⟨h0, ha⟩ := ha
  rw [ag_app] at ha
  obtain ⟨ha, ho, hl, hr, hb⟩ := ha
  rw [ag_app] at hb
  obtain ⟨hb, hv, hx, hc, hy, hs, hz⟩ := hb
  rw [nE_mk, nL_cons, nL_cons, nL_cons, nL_nil, if_pos (by omega)] at hn
  have el : k + (kwT tCase :: (A ++ kwT tOf :: kwT tNil :: sgT tArr :: (B ++ sgT [124] :: nmT x :: sgT [58] :: nmT y :: sgT tArr :: C))).length = k + 1 + A.length + 1 + 1 + 1 + B.length + 1 + 1 + 1 + 1 + 1 + C.length := by simp; omega
  rw [el] at hf ⊢
  obtain ⟨a', ra, ka⟩ := h1 M L (d + 1) _ ha (by omega) (mr_fol ho (by unfold Fol; decide))
  obtain ⟨b', rb, kb⟩ := h2 M L (d + 1) _ hb (by omega) (mr_fol hv (by unfold Fol; decide))
  obtain ⟨c', rc, kc⟩ := h3 M L (d + 1) _ hz (by omega) hf
  refine ⟨_, .mk (j := (M k).at_) trivial (.cons ra (.cons rb (.cons rc .nil))), Ev.succ (Ev.succ ((ka.and (kb.and kc)).imp fun f g => ?_))⟩
  rw [exprP, if_neg (by rw [mr_tk h0]; decide), if_neg (by rw [mr_tk h0]; decide), if_neg (by rw [mr_tk h0]; decide), if_pos (by rw [mr_tk h0]; rfl), caseP, if_neg (by omega), bind_ok5 g.1, bind_ok5 (mr_must (s := tOf) ho rfl), bind_ok5 (mr_must (s := tNil) hl rfl),
    bind_ok5 (mr_must (s := tArr) hr rfl), bind_ok5 g.2.1, bind_ok5 (mr_must (s := [124]) hv rfl), bind_ok5 (name_of hx), bind_ok5 (mr_must (s := [58]) hc rfl), bind_ok5 (name_of hy), bind_ok5 (mr_must (s := tArr) hs rfl), bind_ok5 g.2.2, hx.text, hy.text]
  rfl
end Go.Proofs.Ytkbglnhdbnijlaa
/-
  Every expression is read back from its printed marks, but for places. No dump.
-/
namespace Go.Proofs.Ytkbglnhdbnijlaa
set_option maxHeartbeats 2000000

/-- It begins with a mark that is no closing bracket. -/
def Fst (T : List Mk) : Prop := ∃ t S, T = t :: S ∧ t.text ≠ [41]
theorem Fst.br {T : List Mk} (h : Fst T) (l n : Int) : Fst (brT l n T) := by
  unfold brT
  split
  · exact ⟨_, _, rfl, by decide⟩
  · exact h
theorem Fst.app {T : List Mk} (h : Fst T) (S : List Mk) : Fst (T ++ S) := by
  obtain ⟨t, R, rfl, h⟩ := h
  exact ⟨t, R ++ S, rfl, h⟩
theorem Fst.tk {T : List Mk} (h : Fst T) {M : Nat → Mk} {k : Nat} (ha : Ag M k T) : tk M [41] k = false ∧ T ≠ [] := by
  obtain ⟨t, R, rfl, h⟩ := h
  refine ⟨?_, by simp⟩
  rw [mr_tk ha.1]
  simpa using h
/-- What no name and no number may be. -/
def Odd (x : List UInt8) : Prop := x ≠ tLet ∧ x ≠ tStrict ∧ x ≠ tIf ∧ x ≠ tCase ∧ x ≠ [41]

theorem len2 {xs : List Ex} (h : xs.length = 2) : ∃ a b, xs = [a, b] := by
  match xs, h with
  | [a, b], _ => exact ⟨a, b, rfl⟩
theorem len1 {xs : List Ex} (h : xs.length = 1) : ∃ a, xs = [a] := by
  match xs, h with
  | [a], _ => exact ⟨a, rfl⟩
theorem len3 {xs : List Ex} (h : xs.length = 3) : ∃ a b c, xs = [a, b, c] := by
  match xs, h with
  | [a, b, c], _ => exact ⟨a, b, c, rfl⟩
theorem len0 {xs : List Ex} (h : xs.length = 0) : xs = [] := List.length_eq_zero_iff.1 h

section
variable {Nm : List UInt8 → Prop} {Nu : Int → Int → Prop} (hNm : ∀ x, Nm x → Odd x) (hNu : ∀ p q, Nu p q → Odd (txt p q))

theorem lv_at {a : Ex} (h : Lv (tkE a) a (lvl a.op)) (n : Int) : Lv (brT (lvl a.op) n (tkE a)) a (if lvl a.op < n then 5 else lvl a.op) := lv_br h n
theorem brT_zero (op : Int) (T : List Mk) : brT (lvl op) 0 T = T := by
  unfold brT
  rw [if_neg (by have := lvl_nonneg op; omega)]

include hNm hNu in
theorem lv_all : ∀ (n : Nat) (e : Ex), szE e ≤ n → wfE Nm Nu e → Lv (tkE e) e (lvl e.op) ∧ Fst (tkE e) := by
  intro n
  induction n with
  | zero => intro e h; have := szE_pos e; omega
  | succ n ih =>
    intro e hs hw
    obtain ⟨op, x, y, ty, p, q, xs, i⟩ := e
    rw [wfE_mk] at hw
    rw [szE_mk] at hs
    obtain ⟨hw, hl⟩ := hw
    rw [tkE_mk]
    show Lv _ _ (lvl op) ∧ _
    generalize hlen : xs.length = len at hw
    cases hw with
    | num h =>
      obtain rfl := len0 hlen
      obtain ⟨o1, o2, o3, o4, o5⟩ := hNu _ _ h
      exact ⟨lv5 (good_num p q i) (hdk_one o1 o2 o3 o4) 5, _, _, rfl, o5⟩
    | word h =>
      obtain rfl := len0 hlen
      rcases h with rfl | rfl | rfl
      · exact ⟨lv5 (good_word (op := 2) (by decide) i) (hdk_one (by decide) (by decide) (by decide) (by decide)) 5, _, _, rfl, by decide⟩
      · exact ⟨lv5 (good_word (op := 3) (by decide) i) (hdk_one (by decide) (by decide) (by decide) (by decide)) 5, _, _, rfl, by decide⟩
      · exact ⟨lv5 (good_word (op := 4) (by decide) i) (hdk_one (by decide) (by decide) (by decide) (by decide)) 5, _, _, rfl, by decide⟩
    | fail h =>
      obtain rfl := len0 hlen
      exact ⟨lv5 (good_fail h i) (hdk_one (by decide) (by decide) (by decide) (by decide)) 5, _, _, rfl, by decide⟩
    | var h =>
      obtain rfl := len0 hlen
      obtain ⟨o1, o2, o3, o4, o5⟩ := hNm _ h
      exact ⟨lv5 (good_var x i) (hdk_one o1 o2 o3 o4) 5, _, _, rfl, o5⟩
    | call h =>
      obtain ⟨o1, o2, o3, o4, o5⟩ := hNm _ h
      have hall : ∀ ys : List Ex, szL ys ≤ n → wfL Nm Nu ys → LiR (fun T x => Good0 T x) ((tkL ys).map (·.2)) ys ∧ ∀ T ∈ (tkL ys).map (·.2), Fst T := by
        intro ys
        induction ys with
        | nil => intro _ _; rw [tkL_nil]; exact ⟨.nil, by simp⟩
        | cons z zs ihz =>
          intro h1 h2
          rw [szL_cons] at h1
          rw [wfL_cons] at h2
          obtain ⟨a1, a2⟩ := ih z (by omega) h2.1
          obtain ⟨b1, b2⟩ := ihz (by omega) h2.2
          rw [tkL_cons, List.map_cons]
          refine ⟨.cons a1.g0 b1, fun T hT => ?_⟩
          rcases List.mem_cons.1 hT with rfl | hT
          · exact a2
          · exact b2 T hT
      obtain ⟨c1, c2⟩ := hall xs (by omega) hl
      exact ⟨lv5 (good_call xs _ c1 (fun T hT M k ha => (c2 T hT).tk ha) i) (hdk_one o1 o2 o3 o4) 5, _, _, rfl, o5⟩
    | one h =>
      obtain ⟨a, rfl⟩ := len1 hlen
      rw [wfL_cons] at hl
      rw [szL_cons, szL_nil] at hs
      obtain ⟨a1, a2⟩ := ih a (by omega) hl.1
      rw [tkL_cons, tkL_nil]
      have e0 : ptT [(lvl a.op, tkE a)] 0 0 = tkE a := brT_zero _ _
      rcases h with rfl | rfl | rfl | rfl
      · refine ⟨lv5 (T := kwT (wordT 14) :: sgT [40] :: (ptT [(lvl a.op, tkE a)] 0 0 ++ [sgT [41]])) (by rw [e0]; exact good_one (op := 14) (by decide) a1.g0 i) (hdk_one (by decide) (by decide) (by decide) (by decide)) 5, _, _, rfl, by decide⟩
      · refine ⟨lv5 (T := kwT (wordT 15) :: sgT [40] :: (ptT [(lvl a.op, tkE a)] 0 0 ++ [sgT [41]])) (by rw [e0]; exact good_one (op := 15) (by decide) a1.g0 i) (hdk_one (by decide) (by decide) (by decide) (by decide)) 5, _, _, rfl, by decide⟩
      · refine ⟨lv5 (T := kwT (wordT 16) :: sgT [40] :: (ptT [(lvl a.op, tkE a)] 0 0 ++ [sgT [41]])) (by rw [e0]; exact good_one (op := 16) (by decide) a1.g0 i) (hdk_one (by decide) (by decide) (by decide) (by decide)) 5, _, _, rfl, by decide⟩
      · refine ⟨lv5 (T := kwT (wordT 17) :: sgT [40] :: (ptT [(lvl a.op, tkE a)] 0 0 ++ [sgT [41]])) (by rw [e0]; exact good_one (op := 17) (by decide) a1.g0 i) (hdk_one (by decide) (by decide) (by decide) (by decide)) 5, _, _, rfl, by decide⟩
    | two h =>
      obtain ⟨a, b, rfl⟩ := len2 hlen
      rw [wfL_cons, wfL_cons] at hl
      rw [szL_cons, szL_cons, szL_nil] at hs
      obtain ⟨a1, a2⟩ := ih a (by omega) hl.1
      obtain ⟨b1, b2⟩ := ih b (by omega) hl.2.1
      rw [tkL_cons, tkL_cons, tkL_nil]
      have A := fun m : Int => lv_at a1 m
      have B := fun m : Int => lv_at b1 m
      have F := fun (m : Int) (S : List Mk) => (a2.br (lvl a.op) m).app S
      have w : ∀ (m : Int) (c : Ex), m ≤ 5 → m ≤ (if lvl c.op < m then 5 else lvl c.op) := fun m c hm => lv_le m hm
      rcases h with rfl | rfl | rfl | rfl | rfl | rfl | rfl
      · exact ⟨lv1 (good_cons ((A 2).g2 (w 2 a (by decide))) ((B 1).g1 (w 1 b (by decide))) (hdk_app ((A 2).hd (by have := w 2 a (by decide); omega)))) (hdk_app ((A 2).hd (by have := w 2 a (by decide); omega))), F 2 _⟩
      · exact ⟨lv2 (good_cmp (.inl ⟨rfl, rfl⟩) ((A 3).g3 (w 3 a (by decide))) ((B 3).g3 (w 3 b (by decide)))) (hdk_app ((A 3).hd (by have := w 3 a (by decide); omega))), F 3 _⟩
      · exact ⟨lv2 (good_cmp (.inr ⟨rfl, rfl⟩) ((A 3).g3 (w 3 a (by decide))) ((B 3).g3 (w 3 b (by decide)))) (hdk_app ((A 3).hd (by have := w 3 a (by decide); omega))), F 3 _⟩
      · exact ⟨lv3 (good_add (.inl ⟨rfl, rfl⟩) ((A 3).gS (w 3 a (by decide))) ((B 4).g4 (w 4 b (by decide)))) (hdk_app ((A 3).hd (by have := w 3 a (by decide); omega))), F 3 _⟩
      · exact ⟨lv3 (good_add (.inr ⟨rfl, rfl⟩) ((A 3).gS (w 3 a (by decide))) ((B 4).g4 (w 4 b (by decide)))) (hdk_app ((A 3).hd (by have := w 3 a (by decide); omega))), F 3 _⟩
      · exact ⟨lv4 (good_mul (.inl ⟨rfl, rfl⟩) ((A 4).gT (w 4 a (by decide))) ((B 5).g5 (w 5 b (by decide)))) (hdk_app ((A 4).hd (by have := w 4 a (by decide); omega))), F 4 _⟩
      · exact ⟨lv4 (good_mul (.inr ⟨rfl, rfl⟩) ((A 4).gT (w 4 a (by decide))) ((B 5).g5 (w 5 b (by decide)))) (hdk_app ((A 4).hd (by have := w 4 a (by decide); omega))), F 4 _⟩
    | cond =>
      obtain ⟨a, b, c, rfl⟩ := len3 hlen
      rw [wfL_cons, wfL_cons, wfL_cons] at hl
      rw [szL_cons, szL_cons, szL_cons, szL_nil] at hs
      obtain ⟨a1, a2⟩ := ih a (by omega) hl.1
      obtain ⟨b1, b2⟩ := ih b (by omega) hl.2.1
      obtain ⟨c1, c2⟩ := ih c (by omega) hl.2.2.1
      rw [tkL_cons, tkL_cons, tkL_cons, tkL_nil]
      refine ⟨lv0 (T := kwT tIf :: (brT (lvl a.op) 0 (tkE a) ++ kwT tThen :: (brT (lvl b.op) 0 (tkE b) ++ kwT tElse :: brT (lvl c.op) 0 (tkE c)))) ?_, _, _, rfl, by decide⟩
      rw [brT_zero, brT_zero, brT_zero]
      exact good_if a1.g0 b1.g0 c1.g0 i
    | bind h hx ht =>
      obtain ⟨a, b, rfl⟩ := len2 hlen
      rw [wfL_cons, wfL_cons] at hl
      rw [szL_cons, szL_cons, szL_nil] at hs
      obtain ⟨a1, a2⟩ := ih a (by omega) hl.1
      obtain ⟨b1, b2⟩ := ih b (by omega) hl.2.1
      rw [tkL_cons, tkL_cons, tkL_nil]
      rcases h with rfl | rfl
      · refine ⟨lv0 (T := kwT (wordT 21) :: nmT x :: kwT (letT ty) :: sgT [61] :: (brT (lvl a.op) 0 (tkE a) ++ kwT tIn :: brT (lvl b.op) 0 (tkE b))) ?_, _, _, rfl, by decide⟩
        rw [brT_zero, brT_zero]
        exact good_bind (op := 21) (by decide) ht a1.g0 b1.g0 i
      · refine ⟨lv0 (T := kwT (wordT 22) :: nmT x :: kwT (letT ty) :: sgT [61] :: (brT (lvl a.op) 0 (tkE a) ++ kwT tIn :: brT (lvl b.op) 0 (tkE b))) ?_, _, _, rfl, by decide⟩
        rw [brT_zero, brT_zero]
        exact good_bind (op := 22) (by decide) ht a1.g0 b1.g0 i
    | look hx hy =>
      obtain ⟨a, b, c, rfl⟩ := len3 hlen
      rw [wfL_cons, wfL_cons, wfL_cons] at hl
      rw [szL_cons, szL_cons, szL_cons, szL_nil] at hs
      obtain ⟨a1, a2⟩ := ih a (by omega) hl.1
      obtain ⟨b1, b2⟩ := ih b (by omega) hl.2.1
      obtain ⟨c1, c2⟩ := ih c (by omega) hl.2.2.1
      rw [tkL_cons, tkL_cons, tkL_cons, tkL_nil]
      refine ⟨lv0 (T := kwT tCase :: (brT (lvl a.op) 0 (tkE a) ++ kwT tOf :: kwT tNil :: sgT tArr :: (brT (lvl b.op) 0 (tkE b) ++ sgT [124] :: nmT x :: sgT [58] :: nmT y :: sgT tArr :: brT (lvl c.op) 0 (tkE c)))) ?_, _, _, rfl, by decide⟩
      rw [brT_zero, brT_zero, brT_zero]
      exact good_case a1.g0 b1.g0 c1.g0 i
end
end Go.Proofs.Ytkbglnhdbnijlaa
/-
  A printed program is read back from its marks, but for places. No dump.
-/
namespace Go.Proofs.Ytkbglnhdbnijlaa
set_option maxHeartbeats 2000000

def pmTk (x : Pm) : List Mk := [nmT x.name, kwT (letT x.ty)]
def dfTk (g : Fn1) : List Mk := nmT g.name :: sgT [40] :: (cmT (g.pms.map pmTk) ++ sgT [41] :: sgT [58] :: kwT (letT g.ty) :: sgT [61] :: (tkE g.body ++ [sgT [59]]))
def prTk (gs : List Fn1) : List Mk := (gs.map dfTk).flatten

theorem nameOf_of {M : Nat → Mk} {k num : Nat} {most : Int} {x : List UInt8} (h : MR tt (nmT x) (M k)) (hl : (num : Int) < most) : nameOfP M num most k = .ok (M k) (k + 1) := by
  unfold nameOfP
  rw [if_neg (by omega)]
  exact name_of h
theorem param_of {M : Nat → Mk} {L : Lm} {k num : Nat} {x : Pm} (h : Ag M k (pmTk x)) (ht : x.ty = 1 ∨ x.ty = 2 ∨ x.ty = 3) (hl : (num : Int) < L.a) : ∃ x', PmR tt x x' ∧ paramP M L num k = .ok x' (k + 2) := by
  obtain ⟨h1, h2, _⟩ := h
  refine ⟨⟨x.name, x.ty, (M k).at_⟩, ⟨rfl, rfl, trivial⟩, ?_⟩
  unfold paramP
  rw [bind_ok5 (nameOf_of h1 hl), bind_ok5 (type_of h2 ht), h1.text]
  rfl
theorem paramsL_of : ∀ (ps : List Pm), (∀ x ∈ ps, x.ty = 1 ∨ x.ty = 2 ∨ x.ty = 3) → ∀ (M : Nat → Mk) (L : Lm) (k : Nat) (acc acc' : List Pm), LiR (PmR tt) acc acc' → Ag M k ((ps.map fun y => sgT [44] :: pmTk y).flatten ++ [sgT [41]]) → ((acc.length + ps.length : Nat) : Int) ≤ L.a →
    ∃ l, LiR (PmR tt) (acc ++ ps) l ∧ Ev fun f => paramsL M L f acc' k = .ok l (k + ((ps.map fun y => sgT [44] :: pmTk y).flatten ++ [sgT [41]]).length)
  | [], _, M, L, k, acc, acc', hr, ha, _ => by
    obtain ⟨h9, _⟩ := ha
    refine ⟨acc', by rw [List.append_nil]; exact hr, Ev.succ (Ev.all fun f => ?_)⟩
    rw [paramsL, if_neg (by rw [mr_tk h9]; decide), bind_ok5 (mr_must (s := [41]) h9 rfl)]
    rfl
  | x :: xs, ht, M, L, k, acc, acc', hr, ha, hn => by
    rw [List.map_cons, List.flatten_cons, List.cons_append, List.cons_append, List.append_assoc] at ha ⊢
    obtain ⟨h0, ha⟩ := ha
    rw [ag_app] at ha
    obtain ⟨ha, hb⟩ := ha
    rw [List.length_cons] at hn
    obtain ⟨x', rx, kx⟩ := param_of (L := L) (num := acc'.length) ha (ht x (List.mem_cons_self ..)) (by rw [← hr.length]; omega)
    obtain ⟨l, rl, kl⟩ := paramsL_of xs (fun y hy => ht y (List.mem_cons_of_mem _ hy)) M L (k + 1 + (pmTk x).length) (acc ++ [x]) (acc' ++ [x']) (hr.snoc rx) hb (by simp; omega)
    refine ⟨l, by rw [List.append_assoc] at rl; exact rl, Ev.succ (kl.imp fun f g => ?_)⟩
    rw [paramsL, if_pos (by rw [mr_tk h0]; rfl), bind_ok5 kx]
    refine Eq.trans (show _ = paramsL M L f (acc' ++ [x']) (k + 1 + (pmTk x).length) from rfl) (g.trans ?_)
    congr 1
    simp only [List.length_cons, List.length_append]
    omega
theorem params_of {ps : List Pm} (ht : ∀ x ∈ ps, x.ty = 1 ∨ x.ty = 2 ∨ x.ty = 3) (hz : ∀ x ∈ ps, x.name ≠ [41]) {M : Nat → Mk} {L : Lm} {k : Nat} (ha : Ag M k (sgT [40] :: (cmT (ps.map pmTk) ++ [sgT [41]]))) (hn : (ps.length : Int) ≤ L.a) :
    ∃ l, LiR (PmR tt) ps l ∧ Ev fun f => paramsP M L f k = .ok l (k + (sgT [40] :: (cmT (ps.map pmTk) ++ [sgT [41]])).length) := by
  obtain ⟨h1, ha⟩ := ha
  cases ps with
  | nil =>
    obtain ⟨h9, _⟩ := ha
    refine ⟨[], .nil, Ev.all fun f => ?_⟩
    unfold paramsP
    rw [bind_ok5 (mr_must (s := [40]) h1 rfl), if_pos (by rw [mr_tk h9]; rfl)]
    rfl
  | cons x xs =>
    rw [List.map_cons, show cmT (pmTk x :: xs.map pmTk) = pmTk x ++ ((xs.map pmTk).map fun y => sgT [44] :: y).flatten from rfl, List.map_map, List.append_assoc] at ha ⊢
    rw [ag_app] at ha
    obtain ⟨ha, hb⟩ := ha
    rw [List.length_cons] at hn
    obtain ⟨x', rx, kx⟩ := param_of (L := L) (num := 0) ha (ht x (List.mem_cons_self ..)) (by omega)
    obtain ⟨l, rl, kl⟩ := paramsL_of xs (fun y hy => ht y (List.mem_cons_of_mem _ hy)) M L (k + 1 + (pmTk x).length) [x] [x'] (.cons rx .nil) hb (by simp; omega)
    refine ⟨l, rl, kl.imp fun f g => ?_⟩
    unfold paramsP
    rw [bind_ok5 (mr_must (s := [40]) h1 rfl), if_neg (by rw [mr_tk ha.1]; simpa [nmT] using hz x (List.mem_cons_self ..)), bind_ok5 kx]
    refine Eq.trans (show _ = paramsL M L f [x'] (k + 1 + (pmTk x).length) from rfl) (g.trans ?_)
    congr 1
    simp only [List.length_cons, List.length_append]
    simp only [Function.comp_def]
    omega

section
variable {Nm : List UInt8 → Prop} {Nu : Int → Int → Prop} (hNm : ∀ x, Nm x → Odd x) (hNu : ∀ p q, Nu p q → Odd (txt p q))
include hNm hNu in
theorem def_of {g : Fn1} (hw : WfF Nm Nu g) {M : Nat → Mk} {L : Lm} {k num : Nat} (ha : Ag M k (dfTk g)) (h1 : (num : Int) < L.f) (h2 : (g.pms.length : Int) ≤ L.a) (h3 : (nE g.body : Int) ≤ L.n) :
    ∃ g', FnR tt g g' ∧ Ev fun f => defP M L f num k = .ok g' (k + (dfTk g).length) := by
  unfold dfTk at ha ⊢
  obtain ⟨hx, ha⟩ := ha
  have ha2 : Ag M (k + 1) ((sgT [40] :: (cmT (g.pms.map pmTk) ++ [sgT [41]])) ++ (sgT [58] :: kwT (letT g.ty) :: sgT [61] :: (tkE g.body ++ [sgT [59]]))) := by
    rw [List.cons_append, List.append_assoc]
    exact ha
  rw [ag_app] at ha2
  obtain ⟨hp, hc, ht, hq, hb⟩ := ha2
  rw [ag_app] at hb
  obtain ⟨hb, he, _⟩ := hb
  obtain ⟨ps, rp, kp⟩ := params_of (fun x hx => (hw.pms x hx).2) (fun x hx => (hNm _ (hw.pms x hx).1).2.2.2.2) hp h2
  generalize hK : k + 1 + (sgT [40] :: (cmT (g.pms.map pmTk) ++ [sgT [41]])).length = K at hc ht hq hb he kp
  obtain ⟨b', rb, kb⟩ := (lv_all hNm hNu _ g.body (Nat.le_refl _) hw.body).1.g0 M L 0 _ hb (by omega) (mr_fol he (by unfold Fol; decide))
  refine ⟨⟨g.name, ps, g.ty, b', (M k).at_⟩, ⟨rfl, rp, rfl, rb, trivial⟩, (kp.and kb).imp fun f h => ?_⟩
  unfold defP
  rw [bind_ok5 (nameOf_of hx h1), bind_ok5 h.1, bind_ok5 (mr_must (s := [58]) hc rfl), bind_ok5 (type_of ht hw.ty), bind_ok5 (mr_must (s := [61]) hq rfl), bind_ok5 h.2, bind_ok5 (mr_must (s := [59]) he rfl), hx.text]
  show Rs.ok _ _ = _
  congr 1
  simp only [List.length_cons, List.length_append, List.length_nil] at hK ⊢
  omega
include hNm hNu in
theorem prog_of : ∀ (gs : List Fn1), gs ≠ [] → (∀ g ∈ gs, WfF Nm Nu g) → ∀ (M : Nat → Mk) (L : Lm) (k : Nat) (acc acc' : List Fn1), LiR (FnR tt) acc acc' → Ag M k (prTk gs) → (M (k + (prTk gs).length)).kind = 4 →
    ((acc.length + gs.length : Nat) : Int) ≤ L.f → (∀ g ∈ gs, (g.pms.length : Int) ≤ L.a) → (∀ g ∈ gs, (nE g.body : Int) ≤ L.n) → ∃ l, LiR (FnR tt) (acc ++ gs) l ∧ Ev fun f => progL M L f acc' k = .ok l (k + (prTk gs).length)
  | [], h, _, _, _, _, _, _, _, _, _, _, _, _ => absurd rfl h
  | g :: gs, _, hw, M, L, k, acc, acc', hr, ha, h4, hf, hp, hn => by
    rw [show prTk (g :: gs) = dfTk g ++ prTk gs from rfl] at ha h4 ⊢
    rw [ag_app] at ha
    obtain ⟨ha, hb⟩ := ha
    rw [List.length_cons] at hf
    obtain ⟨g', rg, kg⟩ := def_of hNm hNu (hw g (List.mem_cons_self ..)) (num := acc'.length) ha (by rw [← hr.length]; omega) (hp g (List.mem_cons_self ..)) (hn g (List.mem_cons_self ..))
    by_cases hz : gs = []
    · subst hz
      refine ⟨acc' ++ [g'], hr.snoc rg, Ev.succ (kg.imp fun f h => ?_)⟩
      rw [show dfTk g ++ prTk [] = dfTk g from List.append_nil _] at h4 ⊢
      rw [progL, bind_ok5 h, if_pos h4]
    · obtain ⟨l, rl, kl⟩ := prog_of gs hz (fun x hx => hw x (List.mem_cons_of_mem _ hx)) M L (k + (dfTk g).length) (acc ++ [g]) (acc' ++ [g']) (hr.snoc rg) hb (by rw [List.length_append, ← Nat.add_assoc] at h4; exact h4) (by simp; omega)
        (fun x hx => hp x (List.mem_cons_of_mem _ hx)) (fun x hx => hn x (List.mem_cons_of_mem _ hx))
      have hk0 : (M (k + (dfTk g).length)).kind ≠ 4 := by
        cases gs with
        | nil => exact absurd rfl hz
        | cons y ys =>
          have e : (M (k + (dfTk g).length)).kind = 0 := hb.1.kind
          rw [e]
          decide
      refine ⟨l, by rw [List.append_assoc] at rl; exact rl, Ev.succ ((kg.and kl).imp fun f h => ?_)⟩
      rw [progL, bind_ok5 h.1, if_neg hk0, h.2, List.length_append, Nat.add_assoc]
end
end Go.Proofs.Ytkbglnhdbnijlaa
/-
  The marks of a printed text. No dump.
-/
namespace Go.Proofs.Ytkbglnhdbnijlaa
set_option maxHeartbeats 2000000
set_option maxRecDepth 100000

section
variable (N : Num)
/-- Ahead of a rest of which P holds, the text is cut into these marks, but for places. -/
def CtH (P : List UInt8 → Prop) (s : List UInt8) (T : List Mk) : Prop :=
  ∀ (r : List UInt8) (k : Nat), P r → ∃ ms, LiR (MR tt) T ms ∧ cut N (s ++ r) k = (cut N r (k + s.length)).pre ms
/-- Whatever it is. -/
def Any (_ : List UInt8) : Prop := True
/-- It begins with no letter, digit or bar, nor with = or >. -/
def Sf (r : List UInt8) : Prop := ∀ c, r.head? = some c → inRn c = false ∧ c ≠ 61 ∧ c ≠ 62

theorem pre_pre2 (a b : List Mk) (c : Cu) : (c.pre b).pre a = c.pre (a ++ b) := by
  cases c with
  | ok l => simp [Cu.pre]
  | bad k => rfl
theorem LiR.app {α β : Type} {A : α → β → Prop} : ∀ {xs xs' : List α} {ys ys' : List β}, LiR A xs ys → LiR A xs' ys' → LiR A (xs ++ xs') (ys ++ ys')
  | [], _, _, _, h, k => by cases h; exact k
  | _ :: _, _, _, _, h, k => by cases h with | cons h1 h2 => exact .cons h1 (h2.app k)

variable {N}
theorem CtH.app {P Q : List UInt8 → Prop} {s1 s2 : List UInt8} {T1 T2 : List Mk} (h1 : CtH N P s1 T1) (h2 : CtH N Q s2 T2) (h : ∀ r, Q r → P (s2 ++ r)) : CtH N Q (s1 ++ s2) (T1 ++ T2) := by
  intro r k hr
  obtain ⟨m1, l1, e1⟩ := h1 (s2 ++ r) k (h r hr)
  obtain ⟨m2, l2, e2⟩ := h2 r (k + s1.length) hr
  refine ⟨m1 ++ m2, l1.app l2, ?_⟩
  rw [List.append_assoc, e1, e2, pre_pre2, List.length_append, Nat.add_assoc]
theorem CtH.app0 {Q : List UInt8 → Prop} {s1 s2 : List UInt8} {T1 T2 : List Mk} (h1 : CtH N Any s1 T1) (h2 : CtH N Q s2 T2) : CtH N Q (s1 ++ s2) (T1 ++ T2) := h1.app h2 fun _ _ => trivial
/-- Behind what wants a safe rest stands what begins safely. -/
theorem CtH.appS {Q : List UInt8 → Prop} {s1 s2 : List UInt8} {T1 T2 : List Mk} (h1 : CtH N Sf s1 T1) (h2 : CtH N Q s2 T2) {c : UInt8} {t : List UInt8} (hs : s2 = c :: t) (hc : inRn c = false ∧ c ≠ 61 ∧ c ≠ 62) : CtH N Q (s1 ++ s2) (T1 ++ T2) :=
  h1.app h2 fun r _ => by
    intro d hd
    rw [hs] at hd
    simp only [List.cons_append, List.head?_cons, Option.some.injEq] at hd
    rw [← hd]
    exact hc
theorem CtH.weak {P : List UInt8 → Prop} {s : List UInt8} {T : List Mk} (h : CtH N Any s T) : CtH N P s T := fun r k _ => h r k trivial

theorem ct_blank : CtH N Any [32] [] := by
  intro r k _
  refine ⟨[], .nil, ?_⟩
  rw [show [32] ++ r = 32 :: r from rfl, gap_one N 32 rfl]
  cases cut N r (k + 1) <;> rfl
theorem ct_nl : CtH N Any [10] [] := by
  intro r k _
  refine ⟨[], .nil, ?_⟩
  rw [show [10] ++ r = 10 :: r from rfl, gap_one N 10 rfl]
  cases cut N r (k + 1) <;> rfl
theorem ct_step {P : List UInt8 → Prop} {s : List UInt8} {t : Mk} (hs : t.text = s) (h : ∀ r k, P r → ∃ m, stp N (s ++ r) k = .mark m ∧ MR tt t m) : CtH N P s [t] := by
  intro r k hr
  obtain ⟨m, e, hm⟩ := h r k hr
  refine ⟨[m], .cons hm .nil, ?_⟩
  rw [cut_mark N e, hm.text, hs, List.drop_left]
/-- A sign that nothing makes longer. -/
theorem ct_sign (c : UInt8) (hc : c = 40 ∨ c = 41 ∨ c = 44 ∨ c = 58 ∨ c = 59 ∨ c = 43 ∨ c = 42 ∨ c = 47 ∨ c = 60 ∨ c = 124) : CtH N Any [c] [sgT [c]] := by
  refine ct_step rfl fun r k _ => ⟨⟨3, [c], 0, 0, k⟩, ?_, ⟨rfl, rfl, rfl, rfl, trivial⟩⟩
  rcases hc with rfl | rfl | rfl | rfl | rfl | rfl | rfl | rfl | rfl | rfl <;> rfl
theorem ct_arrow : CtH N Any tArr [sgT tArr] := ct_step rfl fun _ k _ => ⟨⟨3, tArr, 0, 0, k⟩, rfl, ⟨rfl, rfl, rfl, rfl, trivial⟩⟩
theorem ct_eq2 : CtH N Any [61, 61] [sgT [61, 61]] := ct_step rfl fun _ k _ => ⟨⟨3, [61, 61], 0, 0, k⟩, rfl, ⟨rfl, rfl, rfl, rfl, trivial⟩⟩
theorem ct_eq : CtH N Sf [61] [sgT [61]] := by
  refine ct_step rfl fun r k hr => ⟨⟨3, [61], 0, 0, k⟩, ?_, ⟨rfl, rfl, rfl, rfl, trivial⟩⟩
  cases r with
  | nil => rfl
  | cons c t =>
    have := (hr c rfl).2.1
    have h1 : (c == 61) = false := by simpa using this
    unfold stp oneM signM signL
    simp [isBl, inRn, isLt, isDg, this, signsL]
theorem ct_minus : CtH N Sf [45] [sgT [45]] := by
  refine ct_step rfl fun r k hr => ⟨⟨3, [45], 0, 0, k⟩, ?_, ⟨rfl, rfl, rfl, rfl, trivial⟩⟩
  cases r with
  | nil => rfl
  | cons c t =>
    have := (hr c rfl).2.2
    unfold stp oneM signM signL
    simp [isBl, inRn, isLt, isDg, this, signsL]

theorem tw_run {s r : List UInt8} (hs : ∀ c ∈ s, inRn c = true) (hr : Sf r) : (s ++ r).takeWhile inRn = s := by
  induction s with
  | nil =>
    cases r with
    | nil => rfl
    | cons c t => rw [List.nil_append, List.takeWhile_cons, (hr c rfl).1]; rfl
  | cons c t ih =>
    rw [List.cons_append, List.takeWhile_cons, hs c (List.mem_cons_self ..), if_pos rfl, ih fun d hd => hs d (List.mem_cons_of_mem _ hd)]
theorem inRn_plain {c : UInt8} (h : inRn c = true) : isBl c = false ∧ (c == 35) = false := by
  constructor
  · rw [Bool.eq_false_iff]
    intro hb
    have : c = 9 ∨ c = 10 ∨ c = 13 ∨ c = 32 := by simpa [isBl, or_assoc] using hb
    rcases this with rfl | rfl | rfl | rfl <;> exact absurd h (by decide)
  · rw [Bool.eq_false_iff]
    intro hb
    obtain rfl : c = 35 := by simpa using hb
    exact absurd h (by decide)
/-- A run of letters, digits and bars that is one mark. -/
theorem ct_run {s : List UInt8} {t : Mk} (h0 : s ≠ []) (hs : ∀ c ∈ s, inRn c = true) (ht : t.text = s) (h : ∀ k, ∃ m, runM N s k = some m ∧ MR tt t m) : CtH N Sf s [t] := by
  refine ct_step ht fun r k hr => ?_
  obtain ⟨m, e, hm⟩ := h k
  refine ⟨m, ?_, hm⟩
  cases s with
  | nil => exact absurd rfl h0
  | cons c q =>
    obtain ⟨b1, b2⟩ := inRn_plain (hs c (List.mem_cons_self ..))
    have tw := tw_run hs hr
    rw [List.cons_append] at tw ⊢
    unfold stp oneM
    simp only [b1, b2, hs c (List.mem_cons_self ..), if_true, Bool.false_eq_true, if_false, tw, e]
theorem ct_word {s : List UInt8} (hw : s ∈ wordsL) : CtH N Sf s [kwT s] := by
  have h0 : ∀ x ∈ wordsL, x ≠ [] ∧ ∀ c ∈ x, inRn c = true := by decide
  refine ct_run (h0 s hw).1 (h0 s hw).2 rfl fun k => ⟨⟨1, s, 0, 0, k⟩, ?_, ⟨rfl, rfl, rfl, rfl, trivial⟩⟩
  unfold runM
  rw [if_pos (by unfold isWd; simpa using hw)]
/-- A name, as marks have it. -/
structure IsNm (x : List UInt8) : Prop where
  ne : x ≠ []
  all : ∀ c ∈ x, inRn c = true
  wd : isWd x = false
  lt : isLt (x.headD 0) = true
theorem isDg_isLt {c : UInt8} (h : isLt c = true) : isDg c = false := by
  unfold isLt at h
  unfold isDg
  simp only [Bool.or_eq_true, Bool.and_eq_true, decide_eq_true_eq] at h
  simp only [Bool.and_eq_false_iff, decide_eq_false_iff_not]
  rcases h with ⟨h1, h2⟩ | ⟨h1, h2⟩
  · right
    rw [UInt8.le_iff_toNat_le] at h1 ⊢
    have : (65 : UInt8).toNat = 65 := rfl
    have : (57 : UInt8).toNat = 57 := rfl
    omega
  · right
    rw [UInt8.le_iff_toNat_le] at h1 ⊢
    have : (97 : UInt8).toNat = 97 := rfl
    have : (57 : UInt8).toNat = 57 := rfl
    omega
theorem ct_name {x : List UInt8} (h : IsNm x) : CtH N Sf x [nmT x] := by
  refine ct_run h.ne h.all rfl fun k => ⟨⟨0, x, 0, 0, k⟩, ?_, ⟨rfl, rfl, rfl, rfl, trivial⟩⟩
  cases x with
  | nil => exact absurd rfl h.ne
  | cons c q =>
    have h2 : isLt c = true := h.lt
    unfold runM
    rw [h.wd]
    simp [isDg_isLt h2, h2]
/-- A number, as marks have it. -/
structure IsNu (N : Num) (p q : Int) : Prop where
  ne : txt p q ≠ []
  all : ∀ c ∈ txt p q, inRn c = true
  wd : isWd (txt p q) = false
  dg : isDg ((txt p q).headD 0) = true
  ok : N.ok (txt p q) = true
  rp : N.p (txt p q) = p
  rq : N.q (txt p q) = q
theorem ct_num {p q : Int} (h : IsNu N p q) : CtH N Sf (txt p q) [nuT p q] := by
  refine ct_run h.ne h.all rfl fun k => ⟨⟨2, txt p q, p, q, k⟩, ?_, ⟨rfl, rfl, rfl, rfl, trivial⟩⟩
  have h3 := h.dg
  have h1 := h.ne
  have h4 := h.ok
  have h5 := h.rp
  have h6 := h.rq
  have h2 := h.wd
  generalize txt p q = s at *
  cases s with
  | nil => exact absurd rfl h1
  | cons c r =>
    have h7 : isDg c = true := h3
    unfold runM
    rw [h2]
    simp [h7, h4, h5, h6]
end
end Go.Proofs.Ytkbglnhdbnijlaa
/-
  A printed program's text is cut into its marks. No dump.
-/
namespace Go.Proofs.Ytkbglnhdbnijlaa
set_option maxHeartbeats 2000000
set_option maxRecDepth 100000

variable {N : Num}
theorem sfS : inRn 32 = false ∧ (32 : UInt8) ≠ 61 ∧ (32 : UInt8) ≠ 62 := by decide
theorem sfO : inRn 40 = false ∧ (40 : UInt8) ≠ 61 ∧ (40 : UInt8) ≠ 62 := by decide
theorem sfC : inRn 41 = false ∧ (41 : UInt8) ≠ 61 ∧ (41 : UInt8) ≠ 62 := by decide
theorem sfK : inRn 44 = false ∧ (44 : UInt8) ≠ 61 ∧ (44 : UInt8) ≠ 62 := by decide
theorem sfD : inRn 58 = false ∧ (58 : UInt8) ≠ 61 ∧ (58 : UInt8) ≠ 62 := by decide
theorem sfM : inRn 59 = false ∧ (59 : UInt8) ≠ 61 ∧ (59 : UInt8) ≠ 62 := by decide
theorem cO : CtH N Any [40] [sgT [40]] := ct_sign 40 (by decide)
theorem cC : CtH N Any [41] [sgT [41]] := ct_sign 41 (by decide)

/-- In its text and its marks alike. -/
theorem CtH.of {P : List UInt8 → Prop} {s s' : List UInt8} {T T' : List Mk} (h : CtH N P s T) (hs : s' = s) (hT : T' = T) : CtH N P s' T' := by rw [hs, hT]; exact h

section
variable {A B C S : List UInt8} {A' B' C' : List Mk} {s : Mk}
theorem ct_brq {l n : Int} (h : CtH N Sf A A') : CtH N Sf (brq l n A) (brT l n A') := by
  unfold brq brT
  split
  · exact ((cO.app0 (h.appS cC rfl sfC)).weak).of (by simp) (by simp)
  · exact h
theorem ct_bin (h1 : CtH N Sf A A') (hs : CtH N Sf S [s]) (h2 : CtH N Sf B B') : CtH N Sf (A ++ [32] ++ S ++ [32] ++ B) (A' ++ s :: B') :=
  (h1.appS (ct_blank.app0 (hs.appS (ct_blank.app0 h2) rfl sfS)) rfl sfS).of (by simp) (by simp)
theorem ct_un {w : List UInt8} (hw : w ∈ wordsL) (h : CtH N Sf A A') : CtH N Sf (w ++ [40] ++ A ++ [41]) (kwT w :: sgT [40] :: (A' ++ [sgT [41]])) :=
  (((ct_word hw).appS (cO.app0 (h.appS cC rfl sfC)) rfl sfO).weak).of (by simp) (by simp)
theorem ct_if (h1 : CtH N Sf A A') (h2 : CtH N Sf B B') (h3 : CtH N Sf C C') :
    CtH N Sf ([105, 102, 32] ++ A ++ [32, 116, 104, 101, 110, 32] ++ B ++ [32, 101, 108, 115, 101, 32] ++ C) (kwT tIf :: (A' ++ kwT tThen :: (B' ++ kwT tElse :: C'))) :=
  ((ct_word (s := tIf) (by decide)).appS (ct_blank.app0 (h1.appS (ct_blank.app0 ((ct_word (s := tThen) (by decide)).appS (ct_blank.app0 (h2.appS (ct_blank.app0 ((ct_word (s := tElse) (by decide)).appS (ct_blank.app0 h3) rfl sfS)) rfl sfS)) rfl sfS)) rfl sfS)) rfl sfS).of
    (by simp [tIf, tThen, tElse]) (by simp)
theorem ct_let {w x : List UInt8} {ty : Int} (hw : w ∈ wordsL) (hx : IsNm x) (ht : ty = 1 ∨ ty = 2 ∨ ty = 3) (h1 : CtH N Sf A A') (h2 : CtH N Sf B B') :
    CtH N Sf (w ++ [32] ++ x ++ [32] ++ letT ty ++ [32, 61, 32] ++ A ++ [32, 105, 110, 32] ++ B) (kwT w :: nmT x :: kwT (letT ty) :: sgT [61] :: (A' ++ kwT tIn :: B')) := by
  have hl : letT ty ∈ wordsL := by rcases ht with rfl | rfl | rfl <;> decide
  exact ((ct_word hw).appS (ct_blank.app0 ((ct_name hx).appS (ct_blank.app0 ((ct_word hl).appS (ct_blank.app0 (ct_eq.appS (ct_blank.app0 (h1.appS (ct_blank.app0 ((ct_word (s := tIn) (by decide)).appS (ct_blank.app0 h2) rfl sfS)) rfl sfS)) rfl sfS)) rfl sfS)) rfl sfS)) rfl sfS).of
    (by simp [tIn]) (by simp)
theorem ct_case {x y : List UInt8} (hx : IsNm x) (hy : IsNm y) (h1 : CtH N Sf A A') (h2 : CtH N Sf B B') (h3 : CtH N Sf C C') :
    CtH N Sf ([99, 97, 115, 101, 32] ++ A ++ [32, 111, 102, 32, 110, 105, 108, 32, 45, 62, 32] ++ B ++ [32, 124, 32] ++ x ++ [58] ++ y ++ [32, 45, 62, 32] ++ C)
      (kwT tCase :: (A' ++ kwT tOf :: kwT tNil :: sgT tArr :: (B' ++ sgT [124] :: nmT x :: sgT [58] :: nmT y :: sgT tArr :: C'))) := by
  have e3 := ct_blank.app0 (ct_arrow.app0 (ct_blank.app0 h3))
  have e2 := (ct_name (N := N) hx).appS ((ct_sign (N := N) 58 (by decide)).app0 ((ct_name hy).appS e3 rfl sfS)) rfl sfD
  have e1 := h2.appS (ct_blank.app0 ((ct_sign (N := N) 124 (by decide)).app0 (ct_blank.app0 e2))) rfl sfS
  have e0 := ct_blank.app0 ((ct_word (N := N) (s := tOf) (by decide)).appS (ct_blank.app0 ((ct_word (s := tNil) (by decide)).appS (ct_blank.app0 (ct_arrow.app0 (ct_blank.app0 e1))) rfl sfS)) rfl sfS)
  exact ((ct_word (s := tCase) (by decide)).appS (ct_blank.app0 (h1.appS e0 rfl sfS)) rfl sfS).of (by simp [tCase, tOf, tNil, tArr]) (by simp)
end

/-- Texts with commas between. -/
theorem ct_cmS : ∀ {xs : List (List UInt8)} {Ts : List (List Mk)}, LiR (fun s T => CtH N Sf s T) xs Ts → ∀ {r : List UInt8} {R : List Mk}, CtH N Any r R → (∃ c t, r = c :: t ∧ inRn c = false ∧ c ≠ 61 ∧ c ≠ 62) →
    CtH N Any ((xs.map fun y => [44, 32] ++ y).flatten ++ r) ((Ts.map fun y => sgT [44] :: y).flatten ++ R) ∧ ∃ c t, ((xs.map fun y => [44, 32] ++ y).flatten ++ r) = c :: t ∧ inRn c = false ∧ c ≠ 61 ∧ c ≠ 62
  | [], _, h, r, R, hr, hc => by
    cases h
    exact ⟨by simpa using hr, by simpa using hc⟩
  | x :: xs, _, h, r, R, hr, hc => by
    cases h with
    | cons h1 h2 =>
      obtain ⟨a, c, t, e, b⟩ := ct_cmS h2 hr hc
      refine ⟨((ct_sign (N := N) 44 (by decide)).app0 (ct_blank.app0 (h1.appS a e b))).of (by simp) (by simp), 44, _, rfl, sfK⟩
theorem ct_list {xs : List (List UInt8)} {Ts : List (List Mk)} (h : LiR (fun s T => CtH N Sf s T) xs Ts) {r : List UInt8} {R : List Mk} (hr : CtH N Any r R) (hc : ∃ c t, r = c :: t ∧ inRn c = false ∧ c ≠ 61 ∧ c ≠ 62) :
    CtH N Any ([40] ++ cm xs ++ r) (sgT [40] :: (cmT Ts ++ R)) := by
  cases h with
  | nil => exact (cO.app0 hr).of (by simp [cm]) (by simp [cmT])
  | cons h1 h2 =>
    obtain ⟨a, c, t, e, b⟩ := ct_cmS h2 hr hc
    exact (cO.app0 (h1.appS a e b)).of (by simp [cm]) (by simp [cmT])

theorem word_in {op : Int} (h : op = 2 ∨ op = 3 ∨ op = 4 ∨ op = 5 ∨ op = 14 ∨ op = 15 ∨ op = 16 ∨ op = 17 ∨ op = 21 ∨ op = 22) : wordT op ∈ wordsL := by
  rcases h with rfl | rfl | rfl | rfl | rfl | rfl | rfl | rfl | rfl | rfl <;> decide
theorem let_in {ty : Int} (ht : ty = 1 ∨ ty = 2 ∨ ty = 3) : letT ty ∈ wordsL := by rcases ht with rfl | rfl | rfl <;> decide

theorem ct_E : ∀ (n : Nat) (e : Ex), szE e ≤ n → wfE IsNm (IsNu N) e → CtH N Sf (shE e) (tkE e) := by
  intro n
  induction n with
  | zero => intro e h; have := szE_pos e; omega
  | succ n ih =>
    intro e hs hw
    obtain ⟨op, x, y, ty, p, q, xs, i⟩ := e
    rw [wfE_mk] at hw
    rw [szE_mk] at hs
    obtain ⟨hw, hl⟩ := hw
    rw [tkE_mk, shE_mk]
    generalize hlen : xs.length = len at hw
    cases hw with
    | num h => exact ct_num h
    | word h =>
      have := ct_word (N := N) (word_in (op := op) (by omega))
      rcases h with rfl | rfl | rfl <;> exact this
    | fail h => exact ((ct_word (N := N) (word_in (op := 5) (by omega))).appS (ct_blank.app0 (ct_word (let_in h))) rfl sfS).of (by simp [fm]) (by simp [fmT])
    | var h => exact ct_name h
    | call h =>
      have hall : ∀ ys : List Ex, szL ys ≤ n → wfL IsNm (IsNu N) ys → LiR (fun s T => CtH N Sf s T) ((shL ys).map (·.2)) ((tkL ys).map (·.2)) := by
        intro ys
        induction ys with
        | nil => intro _ _; rw [shL_nil, tkL_nil]; exact .nil
        | cons z zs ihz =>
          intro h1 h2
          rw [szL_cons] at h1
          rw [wfL_cons] at h2
          rw [shL_cons, tkL_cons, List.map_cons, List.map_cons]
          exact .cons (ih z (by omega) h2.1) (ihz (by omega) h2.2)
      exact (((ct_name (N := N) h).appS (ct_list (hall xs (by omega) hl) cC ⟨41, [], rfl, sfC⟩) (by simp; rfl) sfO).weak).of (by simp [fm]) (by simp [fmT])
    | one h =>
      obtain ⟨a, rfl⟩ := len1 hlen
      rw [wfL_cons] at hl
      rw [szL_cons, szL_nil] at hs
      have a1 := ih a (by omega) hl.1
      rw [tkL_cons, tkL_nil, shL_cons, shL_nil]
      have := ct_un (N := N) (word_in (op := op) (by omega)) (ct_brq (l := lvl a.op) (n := 0) a1)
      rcases h with rfl | rfl | rfl | rfl <;> exact this
    | two h =>
      obtain ⟨a, b, rfl⟩ := len2 hlen
      rw [wfL_cons, wfL_cons] at hl
      rw [szL_cons, szL_cons, szL_nil] at hs
      have a1 := ih a (by omega) hl.1
      have b1 := ih b (by omega) hl.2.1
      rw [tkL_cons, tkL_cons, tkL_nil, shL_cons, shL_cons, shL_nil]
      have A := fun m : Int => ct_brq (l := lvl a.op) (n := m) a1
      have B := fun m : Int => ct_brq (l := lvl b.op) (n := m) b1
      rcases h with rfl | rfl | rfl | rfl | rfl | rfl | rfl
      · exact ct_bin (A 2) (ct_sign 58 (by decide)).weak (B 1)
      · exact ct_bin (A 3) ct_eq2.weak (B 3)
      · exact ct_bin (A 3) (ct_sign 60 (by decide)).weak (B 3)
      · exact ct_bin (A 3) (ct_sign 43 (by decide)).weak (B 4)
      · exact ct_bin (A 3) ct_minus (B 4)
      · exact ct_bin (A 4) (ct_sign 42 (by decide)).weak (B 5)
      · exact ct_bin (A 4) (ct_sign 47 (by decide)).weak (B 5)
    | cond =>
      obtain ⟨a, b, c, rfl⟩ := len3 hlen
      rw [wfL_cons, wfL_cons, wfL_cons] at hl
      rw [szL_cons, szL_cons, szL_cons, szL_nil] at hs
      rw [tkL_cons, tkL_cons, tkL_cons, tkL_nil, shL_cons, shL_cons, shL_cons, shL_nil]
      exact ct_if (ct_brq (l := lvl a.op) (n := 0) (ih a (by omega) hl.1)) (ct_brq (l := lvl b.op) (n := 0) (ih b (by omega) hl.2.1)) (ct_brq (l := lvl c.op) (n := 0) (ih c (by omega) hl.2.2.1))
    | bind h hx ht =>
      obtain ⟨a, b, rfl⟩ := len2 hlen
      rw [wfL_cons, wfL_cons] at hl
      rw [szL_cons, szL_cons, szL_nil] at hs
      rw [tkL_cons, tkL_cons, tkL_nil, shL_cons, shL_cons, shL_nil]
      have := ct_let (N := N) (word_in (op := op) (by omega)) hx ht (ct_brq (l := lvl a.op) (n := 0) (ih a (by omega) hl.1)) (ct_brq (l := lvl b.op) (n := 0) (ih b (by omega) hl.2.1))
      rcases h with rfl | rfl <;> exact this
    | look hx hy =>
      obtain ⟨a, b, c, rfl⟩ := len3 hlen
      rw [wfL_cons, wfL_cons, wfL_cons] at hl
      rw [szL_cons, szL_cons, szL_cons, szL_nil] at hs
      rw [tkL_cons, tkL_cons, tkL_cons, tkL_nil, shL_cons, shL_cons, shL_cons, shL_nil]
      exact ct_case hx hy (ct_brq (l := lvl a.op) (n := 0) (ih a (by omega) hl.1)) (ct_brq (l := lvl b.op) (n := 0) (ih b (by omega) hl.2.1)) (ct_brq (l := lvl c.op) (n := 0) (ih c (by omega) hl.2.2.1))

theorem ct_def {g : Fn1} (hw : WfF IsNm (IsNu N) g) : CtH N Any (dfT g ++ [10]) (dfTk g) := by
  have hp : ∀ ps : List Pm, (∀ x ∈ ps, IsNm x.name ∧ (x.ty = 1 ∨ x.ty = 2 ∨ x.ty = 3)) → LiR (fun s T => CtH N Sf s T) (ps.map pmT) (ps.map pmTk) := by
    intro ps
    induction ps with
    | nil => intro _; exact .nil
    | cons z zs ih =>
      intro h
      refine .cons ?_ (ih fun x hx => h x (List.mem_cons_of_mem _ hx))
      obtain ⟨h1, h2⟩ := h z (List.mem_cons_self ..)
      exact ((ct_name h1).appS (ct_blank.app0 (ct_word (let_in h2))) rfl sfS).of (by simp [pmT]) (by simp [pmTk])
  have hb := ct_E (N := N) _ g.body (Nat.le_refl _) hw.body
  have e4 := hb.appS ((ct_sign (N := N) 59 (by decide)).app0 ct_nl) rfl sfM
  have e3 := (ct_word (N := N) (let_in hw.ty)).appS (ct_blank.app0 (ct_eq.appS (ct_blank.app0 e4) rfl sfS)) rfl sfS
  have e2 := cC.app0 ((ct_sign (N := N) 58 (by decide)).app0 (ct_blank.app0 e3))
  have e1 := ct_list (hp g.pms hw.pms) e2 ⟨41, _, rfl, sfC⟩
  refine ((ct_name hw.name).appS e1 (by simp; rfl) sfO).of ?_ ?_
  · simp [dfT, pmK, List.take_length]
  · simp [dfTk]
theorem ct_prog : ∀ (gs : List Fn1), (∀ g ∈ gs, WfF IsNm (IsNu N) g) → CtH N Any (prT gs) (prTk gs)
  | [], _ => by
    intro r k _
    refine ⟨[], .nil, ?_⟩
    rw [show prT [] ++ r = r from rfl, show k + (prT []).length = k from rfl]
    cases cut N r k <;> rfl
  | g :: gs, h => by
    have := (ct_def (h g (List.mem_cons_self ..))).app0 (ct_prog gs fun x hx => h x (List.mem_cons_of_mem _ hx))
    exact this.of (by simp [prT]) (by simp [prTk])
end Go.Proofs.Ytkbglnhdbnijlaa
/-
  What is parsed and printed is parsed back, but for places. No dump.
-/
namespace Go.Proofs.Ytkbglnhdbnijlaa
set_option maxHeartbeats 2000000
set_option maxRecDepth 100000

/-- Names and numbers, as cutting leaves them. -/
structure MkS (N : Num) (m : Mk) : Prop where
  nm : m.kind = 0 → IsNm m.text
  nu : m.kind = 2 → IsNu N m.p m.q

section
variable {N : Num} (hN : ∀ l, N.ok l = true → txt (N.p l) (N.q l) = l)
include hN in
theorem runM_mkS {l : List UInt8} {k : Nat} {m : Mk} (ha : ∀ c ∈ l, inRn c = true) (h : runM N l k = some m) : MkS N m := by
  unfold runM at h
  split at h
  · cases h
    exact ⟨fun e => by simp at e, fun e => by simp at e⟩
  · rename_i hw
    cases l with
    | nil => cases h
    | cons c r =>
      dsimp only at h
      split at h
      · rename_i hd
        split at h
        · rename_i hok
          cases h
          refine ⟨fun e => by simp at e, fun _ => ?_⟩
          have e := hN _ hok
          dsimp only
          exact ⟨by rw [e]; simp, by rw [e]; exact ha, by rw [e]; simpa using hw, by rw [e]; exact hd, by rw [e]; exact hok, by rw [e], by rw [e]⟩
        · cases h
      · split at h
        · rename_i hl
          cases h
          exact ⟨fun _ => ⟨by simp, ha, by simpa using hw, hl⟩, fun e => by simp at e⟩
        · cases h
theorem tw_mem {p : UInt8 → Bool} : ∀ (l : List UInt8), ∀ c ∈ l.takeWhile p, p c = true
  | [], c, h => by simp at h
  | x :: l, c, h => by
    rw [List.takeWhile_cons] at h
    split at h
    · rename_i hx
      rcases List.mem_cons.1 h with rfl | h
      · exact hx
      · exact tw_mem l c h
    · simp at h
include hN in
theorem stp_mkS {l : List UInt8} {k : Nat} {m : Mk} (h : stp N l k = .mark m) : MkS N m := by
  unfold stp at h
  cases l with
  | nil => cases h
  | cons c r =>
    dsimp only at h
    split at h
    · cases h
    · split at h
      · cases h
      · cases hm : oneM N (c :: r) k with
        | none => rw [hm] at h; cases h
        | some m' =>
          rw [hm] at h
          cases h
          unfold oneM at hm
          dsimp only at hm
          split at hm
          · exact runM_mkS hN (tw_mem _) hm
          · unfold signM at hm
            split at hm
            · cases hm
            · cases hm
              exact ⟨fun e => by simp at e, fun e => by simp at e⟩
include hN in
theorem cutF_mkS : ∀ f l k ms, cutF N f l k = .ok ms → ∀ m ∈ ms, MkS N m := by
  intro f
  induction f with
  | zero => intro l k ms h; cases h
  | succ f ih =>
    intro l k ms h
    rw [cutF] at h
    cases hs : stp N l k with
    | stop =>
      rw [hs] at h
      cases h
      intro m hm
      obtain rfl := List.mem_singleton.1 hm
      exact ⟨fun e => by simp [endM] at e, fun e => by simp [endM] at e⟩
    | bad => rw [hs] at h; cases h
    | skip n =>
      rw [hs] at h
      exact ih _ _ _ h
    | mark m0 =>
      rw [hs] at h
      dsimp only at h
      cases hc : cutF N f (l.drop m0.text.length) (k + m0.text.length) with
      | bad j => rw [hc] at h; cases h
      | ok ms' =>
        rw [hc] at h
        cases h
        intro m hm
        rcases List.mem_cons.1 hm with rfl | hm
        · exact stp_mkS hN hs
        · exact ih _ _ _ hc m hm
include hN in
theorem mf_mkS {l : List UInt8} {k : Nat} {ms : List Mk} (h : cut N l k = .ok ms) (t : Nat) : MkS N (mf ms t) := by
  rcases Nat.lt_or_ge t ms.length with hl | hl
  · exact cutF_mkS hN _ _ _ _ h _ (List.mem_of_getElem? (mf_mem hl))
  · have e : mf ms t = ⟨4, [], 0, 0, 0⟩ := by
      unfold mf
      rw [List.getD_eq_getElem?_getD, List.getElem?_eq_none hl]
      rfl
    rw [e]
    exact ⟨fun e => by simp at e, fun e => by simp at e⟩

include hN in
/-- Every program that was parsed has the shape. -/
theorem wf_prog {l : List UInt8} {ms : List Mk} {L : Lm} {f : Nat} {gs : List Fn1} {j : Nat} (hc : cut N l 0 = .ok ms) (hp : progL (mf ms) L f [] 0 = .ok gs j) : ∀ g ∈ gs, WfF IsNm (IsNu N) g :=
  al_prog (mf ms) L (fun k h => (mf_mkS hN hc k).nm h) (fun k h => (mf_mkS hN hc k).nu h) f [] 0 (by simp) gs j hp

theorem odd_nm {x : List UInt8} (h : IsNm x) : Odd x := by
  have hw := h.wd
  have hl := h.lt
  refine ⟨?_, ?_, ?_, ?_, ?_⟩ <;> intro e <;> rw [e] at hw hl
  · exact absurd hw (by decide)
  · exact absurd hw (by decide)
  · exact absurd hw (by decide)
  · exact absurd hw (by decide)
  · exact absurd hl (by decide)
theorem odd_nu {p q : Int} (h : IsNu N p q) : Odd (txt p q) := by
  have hd := h.dg
  refine ⟨?_, ?_, ?_, ?_, ?_⟩ <;> intro e <;> rw [e] at hd <;> exact absurd hd (by decide)

theorem ag_of : ∀ {T ms : List Mk} (pre post : List Mk), LiR (MR tt) T ms → Ag (mf (pre ++ (ms ++ post))) pre.length T
  | [], _, _, _, _ => trivial
  | t :: T, _, pre, post, h => by
    cases h with
    | cons h1 h2 =>
      rename_i m ms
      refine ⟨?_, ?_⟩
      · have e : mf (pre ++ (m :: ms ++ post)) pre.length = m := by
          unfold mf
          rw [List.getD_eq_getElem?_getD, List.getElem?_append_right (Nat.le_refl _), Nat.sub_self]
          rfl
        rw [e]
        exact h1
      · have := ag_of (T := T) (pre ++ [m]) post h2
        rw [List.length_append] at this
        simpa using this

include hN in
theorem back {l : List UInt8} {ms : List Mk} {L : Lm} {f : Nat} {gs : List Fn1} {j : Nat} (hc : cut N l 0 = .ok ms) (ha : 0 ≤ L.a) (hn : 0 ≤ L.n) (hp : progL (mf ms) L f [] 0 = .ok gs j) (hgs : gs ≠ []) :
    ∃ ms', cut N (prT gs) 0 = .ok ms' ∧ ∀ f', progL (mf ms') L f' [] 0 ≠ .out → ∃ gs' j', progL (mf ms') L f' [] 0 = .ok gs' j' ∧ LiR (FnR tt) gs gs' := by
  have hw := wf_prog hN hc hp
  obtain ⟨new, e, hf, hfit⟩ := fit_prog (mf ms) L ha hn f [] 0 gs j hp
  rw [List.nil_append] at e
  subst e
  obtain ⟨mt, hmt, hcut⟩ := ct_prog (N := N) gs hw [] 0 trivial
  rw [List.append_nil] at hcut
  have hcut2 : cut N (prT gs) 0 = .ok (mt ++ [endM (0 + (prT gs).length)]) := by rw [hcut]; rfl
  refine ⟨_, hcut2, fun f' hf' => ?_⟩
  have hag := ag_of [] [endM (0 + (prT gs).length)] hmt
  rw [List.nil_append] at hag
  have hend : (mf (mt ++ [endM (0 + (prT gs).length)]) (0 + (prTk gs).length)).kind = 4 := by
    have e : mf (mt ++ [endM (0 + (prT gs).length)]) (0 + (prTk gs).length) = endM (0 + (prT gs).length) := by
      unfold mf
      rw [hmt.length, List.getD_eq_getElem?_getD, Nat.zero_add mt.length, List.getElem?_append_right (Nat.le_refl _), Nat.sub_self]
      rfl
    rw [e]
    rfl
  obtain ⟨gs', hr, hev⟩ := prog_of (fun x => odd_nm) (fun p q => odd_nu) gs hgs hw _ L 0 [] [] .nil hag hend (by simpa using hf) (fun g hg => (hfit g hg).1) (fun g hg => by
    have := (hfit g hg).2
    unfold FitN at this
    omega)
  rw [List.nil_append] at hr
  exact ⟨gs', _, at_ev (F := fun f => progL _ L f [] 0) (fun f => le_prog _ L f [] 0) hf' hev, hr⟩
end

/-! ## A text tells no places -/
end Go.Proofs.Ytkbglnhdbnijlaa
/-
  How long a printed program can be. No dump.
-/
namespace Go.Proofs.Ytkbglnhdbnijlaa
set_option maxHeartbeats 2000000
set_option maxRecDepth 100000

section
variable {K : Nat}
theorem brq_len (l n : Int) (s : List UInt8) : (brq l n s).length ≤ s.length + 2 := by
  unfold brq
  split
  · simp only [List.length_append, List.length_cons, List.length_nil]; omega
  · omega
theorem letT_len (ty : Int) : (letT ty).length ≤ 1 := by
  unfold letT
  repeat' split
  all_goals simp
theorem wordT_len (op : Int) : (wordT op).length ≤ 6 := by
  unfold wordT
  repeat' split
  all_goals simp
theorem signT_len (op : Int) : (signT op).length ≤ 2 := by
  unfold signT
  repeat' split
  all_goals simp
theorem pt0_len (a : Ex) (ps : List (Int × List UInt8)) (n : Int) : (pt ((lvl a.op, shE a) :: ps) 0 n).length ≤ (shE a).length + 2 := brq_len _ _ _
theorem pt1_len (a b : Int × List UInt8) (ps : List (Int × List UInt8)) (n : Int) : (pt (a :: b :: ps) 1 n).length ≤ b.2.length + 2 := brq_len _ _ _
theorem pt2_len (a b c : Int × List UInt8) (ps : List (Int × List UInt8)) (n : Int) : (pt (a :: b :: c :: ps) 2 n).length ≤ c.2.length + 2 := brq_len _ _ _

theorem len_E : ∀ (n : Nat) (e : Ex), szE e ≤ n → wfE (fun x => x.length ≤ K) (fun p q => (txt p q).length ≤ K) e → (shE e).length + 4 ≤ szE e * (2 * K + 64) := by
  intro n
  induction n with
  | zero => intro e h; have := szE_pos e; omega
  | succ n ih =>
    intro e hs hw
    obtain ⟨op, x, y, ty, p, q, xs, i⟩ := e
    rw [wfE_mk] at hw
    rw [szE_mk] at hs ⊢
    obtain ⟨hw, hl⟩ := hw
    rw [shE_mk, Nat.add_mul, Nat.one_mul]
    generalize hlen : xs.length = len at hw
    have hwt := wordT_len op
    have hlt := letT_len ty
    have hsg := signT_len op
    cases hw with
    | num h =>
      have : (fm 1 [] [] 0 p q (shL xs)) = txt p q := rfl
      rw [this]; omega
    | word h =>
      have : (fm op [] [] 0 0 0 (shL xs)) = wordT op := by rcases h with rfl | rfl | rfl <;> rfl
      rw [this]; omega
    | fail h =>
      have : (fm 5 [] [] ty 0 0 (shL xs)) = wordT 5 ++ [32] ++ letT ty := rfl
      rw [this]; simp only [List.length_append, List.length_cons, List.length_nil]; omega
    | var h =>
      have : (fm 6 x [] 0 0 0 (shL xs)) = x := rfl
      rw [this]; omega
    | call h =>
      have hall : ∀ ys : List Ex, szL ys ≤ n → wfL (fun x => x.length ≤ K) (fun p q => (txt p q).length ≤ K) ys → (((shL ys).map (·.2)).map fun y => [44, 32] ++ y).flatten.length + ys.length * 2 ≤ szL ys * (2 * K + 64) := by
        intro ys
        induction ys with
        | nil => intro _ _; rw [shL_nil]; simp
        | cons z zs ihz =>
          intro h1 h2
          rw [szL_cons] at h1 ⊢
          rw [wfL_cons] at h2
          have a := ih z (by omega) h2.1
          have b := ihz (by omega) h2.2
          rw [shL_cons, List.map_cons, List.map_cons, List.flatten_cons, List.length_append, Nat.add_mul]
          simp only [List.length_append, List.length_cons, List.length_nil] at b ⊢
          omega
      have c := hall xs (by omega) hl
      have hcm : (cm ((shL xs).map (·.2))).length ≤ (((shL xs).map (·.2)).map fun y => [44, 32] ++ y).flatten.length := by
        cases xs with
        | nil => rw [shL_nil]; simp [cm]
        | cons z zs =>
          rw [shL_cons]
          simp only [cm, List.map_cons, List.flatten_cons, List.length_append, List.length_cons, List.length_nil]
          omega
      have : (fm 7 x [] 0 0 0 (shL xs)) = x ++ [40] ++ cm ((shL xs).map (·.2)) ++ [41] := rfl
      rw [this]
      simp only [List.length_append, List.length_cons, List.length_nil]
      omega
    | one h =>
      obtain ⟨a, rfl⟩ := len1 hlen
      rw [wfL_cons] at hl
      rw [szL_cons, szL_nil] at hs ⊢
      have a1 := ih a (by omega) hl.1
      rw [shL_cons, shL_nil, Nat.add_mul, Nat.zero_mul]
      have e1 := pt0_len a [] 0
      have : fm op [] [] 0 0 0 [(lvl a.op, shE a)] = wordT op ++ [40] ++ pt [(lvl a.op, shE a)] 0 0 ++ [41] := by rcases h with rfl | rfl | rfl | rfl <;> rfl
      rw [this]
      simp only [List.length_append, List.length_cons, List.length_nil]
      omega
    | two h =>
      obtain ⟨a, b, rfl⟩ := len2 hlen
      rw [wfL_cons, wfL_cons] at hl
      rw [szL_cons, szL_cons, szL_nil] at hs ⊢
      have a1 := ih a (by omega) hl.1
      have b1 := ih b (by omega) hl.2.1
      rw [shL_cons, shL_cons, shL_nil, Nat.add_mul, Nat.add_mul, Nat.zero_mul]
      have e1 := pt0_len a [(lvl b.op, shE b)] (loL op)
      have e2 := pt1_len (lvl a.op, shE a) (lvl b.op, shE b) [] (roL op)
      have : fm op [] [] 0 0 0 [(lvl a.op, shE a), (lvl b.op, shE b)] = pt [(lvl a.op, shE a), (lvl b.op, shE b)] 0 (loL op) ++ [32] ++ signT op ++ [32] ++ pt [(lvl a.op, shE a), (lvl b.op, shE b)] 1 (roL op) := by rcases h with rfl | rfl | rfl | rfl | rfl | rfl | rfl <;> rfl
      rw [this]
      simp only [List.length_append, List.length_cons, List.length_nil]
      dsimp only at e2
      omega
    | cond =>
      obtain ⟨a, b, c, rfl⟩ := len3 hlen
      rw [wfL_cons, wfL_cons, wfL_cons] at hl
      rw [szL_cons, szL_cons, szL_cons, szL_nil] at hs ⊢
      have a1 := ih a (by omega) hl.1
      have b1 := ih b (by omega) hl.2.1
      have c1 := ih c (by omega) hl.2.2.1
      rw [shL_cons, shL_cons, shL_cons, shL_nil, Nat.add_mul, Nat.add_mul, Nat.add_mul, Nat.zero_mul]
      have e1 := pt0_len a [(lvl b.op, shE b), (lvl c.op, shE c)] 0
      have e2 := pt1_len (lvl a.op, shE a) (lvl b.op, shE b) [(lvl c.op, shE c)] 0
      have e3 := pt2_len (lvl a.op, shE a) (lvl b.op, shE b) (lvl c.op, shE c) [] 0
      rw [show fm 19 [] [] 0 0 0 [(lvl a.op, shE a), (lvl b.op, shE b), (lvl c.op, shE c)] = [105, 102, 32] ++ pt [(lvl a.op, shE a), (lvl b.op, shE b), (lvl c.op, shE c)] 0 0 ++ [32, 116, 104, 101, 110, 32] ++ pt [(lvl a.op, shE a), (lvl b.op, shE b), (lvl c.op, shE c)] 1 0 ++ [32, 101, 108, 115, 101, 32] ++ pt [(lvl a.op, shE a), (lvl b.op, shE b), (lvl c.op, shE c)] 2 0 from rfl]
      simp only [List.length_append, List.length_cons, List.length_nil]
      dsimp only at e2 e3
      omega
    | bind h hx ht =>
      obtain ⟨a, b, rfl⟩ := len2 hlen
      rw [wfL_cons, wfL_cons] at hl
      rw [szL_cons, szL_cons, szL_nil] at hs ⊢
      have a1 := ih a (by omega) hl.1
      have b1 := ih b (by omega) hl.2.1
      rw [shL_cons, shL_cons, shL_nil, Nat.add_mul, Nat.add_mul, Nat.zero_mul]
      have e1 := pt0_len a [(lvl b.op, shE b)] 0
      have e2 := pt1_len (lvl a.op, shE a) (lvl b.op, shE b) [] 0
      have : fm op x [] ty 0 0 [(lvl a.op, shE a), (lvl b.op, shE b)] = wordT op ++ [32] ++ x ++ [32] ++ letT ty ++ [32, 61, 32] ++ pt [(lvl a.op, shE a), (lvl b.op, shE b)] 0 0 ++ [32, 105, 110, 32] ++ pt [(lvl a.op, shE a), (lvl b.op, shE b)] 1 0 := by rcases h with rfl | rfl <;> rfl
      rw [this]
      simp only [List.length_append, List.length_cons, List.length_nil]
      dsimp only at e2
      omega
    | look hx hy =>
      obtain ⟨a, b, c, rfl⟩ := len3 hlen
      rw [wfL_cons, wfL_cons, wfL_cons] at hl
      rw [szL_cons, szL_cons, szL_cons, szL_nil] at hs ⊢
      have a1 := ih a (by omega) hl.1
      have b1 := ih b (by omega) hl.2.1
      have c1 := ih c (by omega) hl.2.2.1
      rw [shL_cons, shL_cons, shL_cons, shL_nil, Nat.add_mul, Nat.add_mul, Nat.add_mul, Nat.zero_mul]
      have e1 := pt0_len a [(lvl b.op, shE b), (lvl c.op, shE c)] 0
      have e2 := pt1_len (lvl a.op, shE a) (lvl b.op, shE b) [(lvl c.op, shE c)] 0
      have e3 := pt2_len (lvl a.op, shE a) (lvl b.op, shE b) (lvl c.op, shE c) [] 0
      rw [show fm 20 x y 0 0 0 [(lvl a.op, shE a), (lvl b.op, shE b), (lvl c.op, shE c)] = [99, 97, 115, 101, 32] ++ pt [(lvl a.op, shE a), (lvl b.op, shE b), (lvl c.op, shE c)] 0 0 ++ [32, 111, 102, 32, 110, 105, 108, 32, 45, 62, 32] ++ pt [(lvl a.op, shE a), (lvl b.op, shE b), (lvl c.op, shE c)] 1 0 ++ [32, 124, 32] ++ x ++ [58] ++ y ++ [32, 45, 62, 32] ++ pt [(lvl a.op, shE a), (lvl b.op, shE b), (lvl c.op, shE c)] 2 0 from rfl]
      simp only [List.length_append, List.length_cons, List.length_nil]
      dsimp only at e2 e3
      omega

theorem len_pms : ∀ (ps : List Pm), (∀ x ∈ ps, x.name.length ≤ K) → ((ps.map pmT).map fun y => [44, 32] ++ y).flatten.length ≤ ps.length * (K + 4)
  | [], _ => by simp
  | x :: ps, h => by
    have a := len_pms ps fun y hy => h y (List.mem_cons_of_mem _ hy)
    have b := h x (List.mem_cons_self ..)
    have c := letT_len x.ty
    rw [List.map_cons, List.map_cons, List.flatten_cons, List.length_append, List.length_cons, Nat.add_mul, Nat.one_mul]
    unfold pmT at *
    simp only [List.length_append, List.length_cons, List.length_nil] at a ⊢
    omega
theorem cm_len (xs : List (List UInt8)) : (cm xs).length ≤ (xs.map fun y => [44, 32] ++ y).flatten.length := by
  cases xs with
  | nil => simp [cm]
  | cons z zs =>
    simp only [cm, List.map_cons, List.flatten_cons, List.length_append, List.length_cons, List.length_nil]
    omega
theorem len_def {g : Fn1} (hw : WfF (fun x => x.length ≤ K) (fun p q => (txt p q).length ≤ K) g) : (dfT g).length + 1 ≤ K + 20 + g.pms.length * (K + 4) + szE g.body * (2 * K + 64) := by
  have a := len_pms g.pms fun x hx => (hw.pms x hx).1
  have b := cm_len (g.pms.map pmT)
  have c := len_E _ g.body (Nat.le_refl _) hw.body
  have d := hw.name
  have e := letT_len g.ty
  unfold dfT pmK
  rw [List.take_length]
  simp only [List.length_append, List.length_cons, List.length_nil]
  omega
theorem len_prog {S : Nat} : ∀ (gs : List Fn1), (∀ g ∈ gs, (dfT g).length + 1 ≤ S) → (prT gs).length ≤ gs.length * S
  | [], _ => by simp [prT]
  | g :: gs, h => by
    have a := len_prog gs fun x hx => h x (List.mem_cons_of_mem _ hx)
    have b := h g (List.mem_cons_self ..)
    have e : prT (g :: gs) = dfT g ++ [10] ++ prT gs := by simp [prT]
    rw [e, List.length_cons, Nat.add_mul, Nat.one_mul]
    simp only [List.length_append, List.length_cons, List.length_nil]
    omega
end

section
variable {N : Num}
theorem cutF_len : ∀ f l k ms, cutF N f l k = .ok ms → ∀ m ∈ ms, m.text.length ≤ l.length := by
  intro f
  induction f with
  | zero => intro l k ms h; cases h
  | succ f ih =>
    intro l k ms h
    rw [cutF] at h
    cases hs : stp N l k with
    | stop =>
      rw [hs] at h
      cases h
      intro m hm
      obtain rfl := List.mem_singleton.1 hm
      simp [endM]
    | bad => rw [hs] at h; cases h
    | skip n =>
      rw [hs] at h
      intro m hm
      have := ih _ _ _ h m hm
      rw [List.length_drop] at this
      omega
    | mark m0 =>
      rw [hs] at h
      dsimp only at h
      cases hc : cutF N f (l.drop m0.text.length) (k + m0.text.length) with
      | bad j => rw [hc] at h; cases h
      | ok ms' =>
        rw [hc] at h
        cases h
        intro m hm
        rcases List.mem_cons.1 hm with rfl | hm
        · cases l with
          | nil => cases hs
          | cons c r =>
            unfold stp at hs
            dsimp only at hs
            split at hs
            · cases hs
            · split at hs
              · cases hs
              · cases hm : oneM N (c :: r) k with
                | none => rw [hm] at hs; cases hs
                | some m' =>
                  rw [hm] at hs
                  cases hs
                  exact (oneM_text N hm).2.1
        · have := ih _ _ _ hc m hm
          rw [List.length_drop] at this
          omega
theorem mf_len {l : List UInt8} {k : Nat} {ms : List Mk} (h : cut N l k = .ok ms) (t : Nat) : (mf ms t).text.length ≤ l.length := by
  rcases Nat.lt_or_ge t ms.length with hl | hl
  · exact cutF_len _ _ _ _ h _ (List.mem_of_getElem? (mf_mem hl))
  · have e : mf ms t = ⟨4, [], 0, 0, 0⟩ := by
      unfold mf
      rw [List.getD_eq_getElem?_getD, List.getElem?_eq_none hl]
      rfl
    rw [e]
    simp
/-- A number's mark holds its text. -/
theorem cutF_txt (hN : ∀ l, N.ok l = true → txt (N.p l) (N.q l) = l) : ∀ f l k ms, cutF N f l k = .ok ms → ∀ m ∈ ms, m.kind = 2 → txt m.p m.q = m.text := by
  intro f
  induction f with
  | zero => intro l k ms h; cases h
  | succ f ih =>
    intro l k ms h
    rw [cutF] at h
    cases hs : stp N l k with
    | stop =>
      rw [hs] at h
      cases h
      intro m hm
      obtain rfl := List.mem_singleton.1 hm
      intro e
      simp [endM] at e
    | bad => rw [hs] at h; cases h
    | skip n =>
      rw [hs] at h
      exact ih _ _ _ h
    | mark m0 =>
      rw [hs] at h
      dsimp only at h
      cases hc : cutF N f (l.drop m0.text.length) (k + m0.text.length) with
      | bad j => rw [hc] at h; cases h
      | ok ms' =>
        rw [hc] at h
        cases h
        intro m hm
        rcases List.mem_cons.1 hm with rfl | hm
        · intro hk
          cases l with
          | nil => cases hs
          | cons c r =>
            unfold stp at hs
            dsimp only at hs
            split at hs
            · cases hs
            · split at hs
              · cases hs
              · cases hm : oneM N (c :: r) k with
                | none => rw [hm] at hs; cases hs
                | some m' =>
                  rw [hm] at hs
                  cases hs
                  unfold oneM at hm
                  dsimp only at hm
                  split at hm
                  · unfold runM at hm
                    split at hm
                    · cases hm; simp at hk
                    · split at hm
                      · cases hm
                      · split at hm
                        · split at hm
                          · rename_i hok
                            cases hm
                            exact hN _ hok
                          · cases hm
                        · split at hm
                          · cases hm; simp at hk
                          · cases hm
                  · unfold signM at hm
                    split at hm
                    · cases hm
                    · cases hm; simp at hk
        · exact ih _ _ _ hc m hm
theorem mf_txt (hN : ∀ l, N.ok l = true → txt (N.p l) (N.q l) = l) {l : List UInt8} {k : Nat} {ms : List Mk} (h : cut N l k = .ok ms) (t : Nat) (hk : (mf ms t).kind = 2) : txt (mf ms t).p (mf ms t).q = (mf ms t).text := by
  rcases Nat.lt_or_ge t ms.length with hl | hl
  · exact cutF_txt hN _ _ _ _ h _ (List.mem_of_getElem? (mf_mem hl)) hk
  · have e : mf ms t = ⟨4, [], 0, 0, 0⟩ := by
      unfold mf
      rw [List.getD_eq_getElem?_getD, List.getElem?_eq_none hl]
      rfl
    rw [e] at hk
    simp at hk
theorem wf_len (hN : ∀ l, N.ok l = true → txt (N.p l) (N.q l) = l) {l : List UInt8} {ms : List Mk} {L : Lm} {f : Nat} {gs : List Fn1} {j : Nat} (hc : cut N l 0 = .ok ms) (hp : progL (mf ms) L f [] 0 = .ok gs j) :
    ∀ g ∈ gs, WfF (fun x => x.length ≤ l.length) (fun p q => (txt p q).length ≤ l.length) g :=
  al_prog (mf ms) L (fun k _ => mf_len hc k) (fun k h => by rw [mf_txt hN hc k h]; exact mf_len hc k) f [] 0 (by simp) gs j hp
end
end Go.Proofs.Ytkbglnhdbnijlaa
