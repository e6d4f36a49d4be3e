/-
  2 texts in one: what each proves stands at its head.
-/
import Derived.Test.YtaneibojiamjeaaGreatDoorUkd
import Derived.Test.YtaneibojiamjeaaGreatDoorUka
import Derived.Test.YtaneibojiamjeaaGreatDoorUkc
/-
  The program's names and the document's are the same, plainly: free ones, uses, all names.
-/
namespace Go.Proofs.YtaneibojiamjeaaGreatDoor
open Go.RowKit
set_option maxRecDepth 100000

theorem fsY_app (ys zs : List (Ex × Bool)) : fsY (ys ++ zs) = fsY ys ++ fsY zs := by unfold fsY; rw [List.filter_append, List.map_append]
theorem cnt_zero {env env' : List (List UInt8)} (h : ∀ s, s ∈ env ↔ s ∈ env') (s : List UInt8) : cnt env s = 0 ↔ s ∉ env' := by
  show env.count s = 0 ↔ _
  rw [List.count_eq_zero, h]
theorem fs_one (env' : List (List UInt8)) (op : Int) (name tail : List UInt8) (ty p q : Int) (xs : List Ex) (i : Nat) : fsY (snO env' op name tail ty p q xs i) = if op = 6 ∧ name ∉ env' then [name] else [] := by
  unfold snO
  by_cases h : op = 6 ∨ op = 7
  · rw [if_pos h]
    by_cases h2 : op = 6 ∧ name ∉ env'
    · rw [if_pos h2]
      unfold fsY
      rw [List.filter_cons, if_pos (by simpa using h2)]
      rfl
    · rw [if_neg h2]
      unfold fsY
      rw [List.filter_cons, if_neg (by simpa using h2)]
      rfl
  · rw [if_neg h, if_neg fun k => h (.inl k.1)]
    rfl
mutual
/-- What a walk tells of free variables is what the document sees. -/
theorem gw_fs {σ : Type} (upd : List UInt8 → σ → σ) : ∀ (x : Ex) (env env' : List (List UInt8)) (s : σ), (∀ s, s ∈ env ↔ s ∈ env') → gwE (seeF upd) env x s = (fsY (snE env' x)).foldl (fun s n => upd n s) s
  | .mk op name tail ty p q xs i, env, env', s, h => by
    rw [gwE_mk, snE_mk, fsY_app, List.foldl_append, fs_one, gw_fsL upd xs env env' op name tail 0 _ h]
    congr 1
    unfold seeF
    by_cases k : op = 6 ∧ name ∉ env'
    · rw [if_pos k, if_pos ⟨k.1, (cnt_zero h name).2 k.2⟩]
      rfl
    · rw [if_neg k, if_neg fun k2 => k ⟨k2.1, (cnt_zero h name).1 k2.2⟩]
      rfl
theorem gw_fsL {σ : Type} (upd : List UInt8 → σ → σ) : ∀ (xs : List Ex) (env env' : List (List UInt8)) (op : Int) (name tail : List UInt8) (i : Nat) (s : σ), (∀ s, s ∈ env ↔ s ∈ env') → gwL (seeF upd) env op name tail i xs s = (fsY (snL env' op name tail i xs)).foldl (fun s n => upd n s) s
  | [], env, env', op, name, tail, i, s, h => by rw [gwL_nil, snL_nil]; rfl
  | x :: xs, env, env', op, name, tail, i, s, h => by
    rw [gwL_cons, snL_cons, fsY_app, List.foldl_append, gw_fsL upd xs env env' op name tail (i + 1) _ h, gw_fs upd x (bnd6 op name tail i ++ env) (env' ++ bnd6 op name tail i) s fun t => by rw [List.mem_append, List.mem_append, h t, Or.comm]]
end
theorem frE_fsE (x : Ex) : frE x = fsE x := by
  have key : ∀ (l s : List (List UInt8)), l.foldl (fun s n => s ++ [n]) s = s ++ l := by
    intro l
    induction l with
    | nil => intro s; simp
    | cons a l ih => intro s; rw [List.foldl_cons, ih, List.append_assoc]; rfl
  unfold frE fsE
  rw [gw_fs (fun name (l : List (List UInt8)) => l ++ [name]) x [] [] [] (fun _ => Iff.rfl), key, List.nil_append]
end Go.Proofs.YtaneibojiamjeaaGreatDoor
/-
  The document's digits and Fresh.
-/
namespace Go.Proofs.YtaneibojiamjeaaGreatDoor
open Go.RowKit Go.Lib
set_option maxRecDepth 100000

end Go.Proofs.YtaneibojiamjeaaGreatDoor
