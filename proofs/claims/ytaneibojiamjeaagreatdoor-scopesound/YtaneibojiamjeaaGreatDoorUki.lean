/-
  2 texts in one: what each proves stands at its head.
-/
import Derived.Test.YtaneibojiamjeaaGreatDoorUke
import Derived.Test.YtaneibojiamjeaaGreatDoorUkc
/-
  What is free in a let, a strict, a case, a sum, plainly.
-/
namespace Go.Proofs.YtaneibojiamjeaaGreatDoor
open Go.RowKit
set_option maxRecDepth 100000

mutual
/-- What is free hangs on the names around by this alone: is it among them? -/
theorem fs_env (n : List UInt8) : ∀ (x : Ex) (env env' : List (List UInt8)), (n ∈ env ↔ n ∈ env') → (n ∈ fsY (snE env x) ↔ n ∈ fsY (snE env' x))
  | .mk op name tail ty p q xs i, env, env', h => by
    rw [snE_mk, snE_mk, fsY_app, fsY_app, fs_one, fs_one, List.mem_append, List.mem_append, fs_envL n xs env env' op name tail 0 h]
    have : (n ∈ (if op = 6 ∧ name ∉ env then [name] else [])) ↔ (n ∈ (if op = 6 ∧ name ∉ env' then [name] else [])) := by
      by_cases e : n = name
      · subst e
        by_cases h6 : op = 6 <;> by_cases h1 : n ∈ env <;> simp [h6, h1, h.symm]
      · constructor
        · intro hm; split at hm <;> simp [e] at hm
        · intro hm; split at hm <;> simp [e] at hm
    rw [this]
theorem fs_envL (n : List UInt8) : ∀ (xs : List Ex) (env env' : List (List UInt8)) (op : Int) (name tail : List UInt8) (i : Nat), (n ∈ env ↔ n ∈ env') → (n ∈ fsY (snL env op name tail i xs) ↔ n ∈ fsY (snL env' op name tail i xs))
  | [], env, env', op, name, tail, i, h => by rw [snL_nil, snL_nil]
  | x :: xs, env, env', op, name, tail, i, h => by
    rw [snL_cons, snL_cons, fsY_app, fsY_app, List.mem_append, List.mem_append, fs_envL n xs env env' op name tail (i + 1) h, fs_env n x (env ++ bnd6 op name tail i) (env' ++ bnd6 op name tail i) (by rw [List.mem_append, List.mem_append, h])]
end
mutual
theorem fs_bound (n : List UInt8) : ∀ (x : Ex) (env : List (List UInt8)), n ∈ env → n ∉ fsY (snE env x)
  | .mk op name tail ty p q xs i, env, h => by
    rw [snE_mk, fsY_app, fs_one, List.mem_append]
    rintro (hm | hm)
    · split at hm
      · rename_i h2
        rw [List.mem_singleton] at hm
        subst hm
        exact h2.2 h
      · cases hm
    · exact fs_boundL n xs env op name tail 0 h hm
theorem fs_boundL (n : List UInt8) : ∀ (xs : List Ex) (env : List (List UInt8)) (op : Int) (name tail : List UInt8) (i : Nat), n ∈ env → n ∉ fsY (snL env op name tail i xs)
  | [], env, op, name, tail, i, h => by rw [snL_nil]; intro hm; cases hm
  | x :: xs, env, op, name, tail, i, h => by
    rw [snL_cons, fsY_app, List.mem_append]
    rintro (hm | hm)
    · exact fs_bound n x _ (List.mem_append_left _ h) hm
    · exact fs_boundL n xs env op name tail (i + 1) h hm
end
theorem fs_in (n : List UInt8) (x : Ex) (env : List (List UInt8)) : n ∈ fsY (snE env x) ↔ n ∉ env ∧ n ∈ fsE x := by
  by_cases h : n ∈ env
  · exact ⟨fun k => absurd k (fs_bound n x env h), fun k => absurd h k.1⟩
  · rw [fs_env n x env [] (by simp [h])]
    exact ⟨fun k => ⟨h, k⟩, fun k => k.2⟩
end Go.Proofs.YtaneibojiamjeaaGreatDoor
/-
  The walk of ScopeBinds, from what all names are on.
-/
namespace Go.Proofs.YtaneibojiamjeaaGreatDoor
open Go.RowKit Go.Maps
set_option maxRecDepth 100000

/-- What stands behind a statement. -/
def tl : Code → Code
  | .seq _ b => b
  | c => c
theorem fsE_len (x : Ex) : (fsE x).length ≤ szE x := Nat.le_trans (fsY_len _) (snE_len [] x)
theorem bs_ne {a b : List UInt8} (h : a ≠ b) : ((bs a).toList == (bs b).toList) = false := by
  rw [beq_eq_false_iff_ne]
  intro e
  apply h
  have := congrArg (fun l => l) e
  simpa [bs, Lib.toList_data] using this

end Go.Proofs.YtaneibojiamjeaaGreatDoor
