/-
  ShowOne, plainly: a text in blanks is read as the same program; two programs with one text are one.
-/
import Derived.Test.YtndgglhppoijnaaDoorUW
import Derived.Test.YtndgglhppoijnaaDoorGj
namespace Go.Proofs.YtndgglhppoijnaaDoor

mutual
theorem ExR.trn : ∀ {x y z : Ex}, ExR tt x y → ExR tt y z → ExR tt x z
  | .mk _ _ _ _ _ _ _ _, _, _, h, k => by
    cases h with
    | mk _ h2 =>
      cases k with
      | mk _ k2 => exact .mk trivial (h2.trn k2)
theorem ExsR.trn : ∀ {xs ys zs : List Ex}, ExsR tt xs ys → ExsR tt ys zs → ExsR tt xs zs
  | [], _, _, h, k => by cases h; cases k; exact .nil
  | _ :: _, _, _, h, k => by
    cases h with
    | cons h1 h2 =>
      cases k with
      | cons k1 k2 => exact .cons (h1.trn k1) (h2.trn k2)
end
theorem LiR.trn {α : Type} {A : α → α → Prop} (hA : ∀ a b c, A a b → A b c → A a c) : ∀ {xs ys zs : List α}, LiR A xs ys → LiR A ys zs → LiR A xs zs
  | [], _, _, h, k => by cases h; cases k; exact .nil
  | _ :: _, _, _, h, k => by
    cases h with
    | cons h1 h2 =>
      cases k with
      | cons k1 k2 => exact .cons (hA _ _ _ h1 k1) (LiR.trn hA h2 k2)
theorem FnR.trn {f g h : Fn1} (a : FnR tt f g) (b : FnR tt g h) : FnR tt f h :=
  ⟨a.name.trans b.name, LiR.trn (fun _ _ _ x y => ⟨x.name.trans y.name, x.ty.trans y.ty, trivial⟩) a.pms b.pms, a.ty.trans b.ty, a.body.trn b.body, trivial⟩

/-- The text of ShowOne: a program's text in blanks, a remark ahead of it. -/
def blk (l : List UInt8) : List UInt8 := [32, 35, 120, 10, 9] ++ l ++ [10, 32]
theorem cut_blk (N : Num) (l : List UInt8) {ms : List Mk} (hc : cut N l 0 = .ok ms) : ∃ ms', cut N (blk l) 0 = .ok ms' ∧ ∀ t, MR tt (mf ms t) (mf ms' t) := by
  obtain ⟨⟨init, rfl, _⟩, _, _⟩ := cut_row N _ _ _ hc
  have h1 : cut N (blk l) 0 = cut N (l ++ 10 :: [32]) 5 := by
    show cut N (32 :: 35 :: 120 :: 10 :: 9 :: (l ++ [10, 32])) 0 = _
    rw [gap_one N _ (by decide)]
    have h : stp N (35 :: 120 :: 10 :: 9 :: (l ++ [10, 32])) (0 + 1) = .skip 2 := rfl
    rw [cut_skip N h]
    show cut N (10 :: 9 :: (l ++ [10, 32])) (0 + 1 + 2) = _
    rw [gap_one N _ (by decide), gap_one N _ (by decide)]
  have h2 : cut N l 5 = .ok ((init ++ [endM (0 + l.length)]).map (·.mv 5)) := by
    have := cut_mv N 5 l 0
    rw [hc] at this
    exact this
  have h3 : cut N [32] (5 + l.length + 1) = .ok [endM (5 + l.length + 1 + 1)] := by
    rw [gap_one N _ (by decide)]
    rfl
  rw [h1, cut_join, h2, h3]
  refine ⟨_, rfl, fun t => ?_⟩
  have e : ((init ++ [endM (0 + l.length)]).map (·.mv 5)).dropLast = init.map (·.mv 5) := by
    rw [List.map_append, List.map_cons, List.map_nil, List.dropLast_concat]
  rw [e]
  rcases Nat.lt_trichotomy t init.length with h | h | h
  · have e1 : mf (init ++ [endM (0 + l.length)]) t = init[t] := mf_get (by rw [List.getElem?_append_left h, List.getElem?_eq_getElem h])
    have e2 : mf (init.map (·.mv 5) ++ [endM (5 + l.length + 1 + 1)]) t = init[t].mv 5 := mf_get (by
      rw [List.getElem?_append_left (by rw [List.length_map]; exact h), List.getElem?_map, List.getElem?_eq_getElem h]
      rfl)
    rw [e1, e2]
    exact ⟨rfl, rfl, rfl, rfl, trivial⟩
  · subst h
    have e1 : mf (init ++ [endM (0 + l.length)]) init.length = endM (0 + l.length) := mf_get (by simp)
    have e2 : mf (init.map (·.mv 5) ++ [endM (5 + l.length + 1 + 1)]) init.length = endM (5 + l.length + 1 + 1) := mf_get (by
      rw [List.getElem?_append_right (by rw [List.length_map]; exact Nat.le_refl _), List.length_map, Nat.sub_self]
      rfl)
    rw [e1, e2]
    exact ⟨rfl, rfl, rfl, rfl, trivial⟩
  · have e1 : mf (init ++ [endM (0 + l.length)]) t = ⟨4, [], 0, 0, 0⟩ := by
      unfold mf
      rw [List.getD_eq_getElem?_getD, List.getElem?_eq_none (by simp; omega)]
      rfl
    have e2 : mf (init.map (·.mv 5) ++ [endM (5 + l.length + 1 + 1)]) t = ⟨4, [], 0, 0, 0⟩ := by
      unfold mf
      rw [List.getD_eq_getElem?_getD, List.getElem?_eq_none (by simp; omega)]
      rfl
    rw [e1, e2]
    exact ⟨rfl, rfl, rfl, rfl, trivial⟩

/-- What is read of a text in blanks is the text's own program, but for places. -/
theorem blk_same (N : Num) (L : Lm) (l : List UInt8) {ms ms' : List Mk} {f f' : Nat} {gs gs' : List Fn1} {j j' : Nat} (hc : cut N l 0 = .ok ms) (hp : progL (mf ms) L f [] 0 = .ok gs j) (hc' : cut N (blk l) 0 = .ok ms') (hp' : progL (mf ms') L f' [] 0 = .ok gs' j') : LiR (FnR tt) gs gs' := by
  obtain ⟨m2, e2, hr⟩ := cut_blk N l hc
  rw [hc'] at e2
  cases e2
  have h := sr_prog (ρ := tt) (K := fun _ => True) (k0 := 0) (s := 0) (mf ms) (mf ms') L (fun _ _ _ _ _ => trivial) (fun t _ _ => hr t) f [] [] 0 (Nat.le_refl _) .nil
  rw [hp] at h
  obtain ⟨b, e, hb⟩ := h trivial
  have e1 : progL (mf ms') L f [] 0 = .ok b j := e
  have hup : ∀ {f1 f2 : Nat}, f1 ≤ f2 → (progL (mf ms') L f1 [] 0).Le (progL (mf ms') L f2 [] 0) := fun h => le_up (F := fun f => progL (mf ms') L f [] 0) (fun f => le_prog _ L f [] 0) h
  have k1 : progL (mf ms') L (f + f') [] 0 = .ok b j := by
    rcases hup (Nat.le_add_right f f') with k | k
    · rw [e1] at k; cases k
    · exact k.symm.trans e1
  have k2 : progL (mf ms') L (f + f') [] 0 = .ok gs' j' := by
    rcases hup (Nat.le_add_left f' f) with k | k
    · rw [hp'] at k; cases k
    · exact k.symm.trans hp'
  rw [k1] at k2
  cases k2
  exact hb

/-- Two programs that were read and have one text are one, but for places. -/
theorem one_text {N : Num} (hN : ∀ l, N.ok l = true → txt (N.p l) (N.q l) = l) {L : Lm} (ha : 0 ≤ L.a) (hn : 0 ≤ L.n) {l l2 : List UInt8} {ms ms2 : List Mk} {f f2 : Nat} {gs gs2 : List Fn1} {j j2 : Nat} (hc : cut N l 0 = .ok ms) (hp : progL (mf ms) L f [] 0 = .ok gs j)
    (hc2 : cut N l2 0 = .ok ms2) (hp2 : progL (mf ms2) L f2 [] 0 = .ok gs2 j2) (hg : gs ≠ []) (hg2 : gs2 ≠ []) (ht : prT gs = prT gs2) : LiR (FnR tt) gs gs2 := by
  obtain ⟨m1, c1, b1⟩ := back hN hc ha hn hp hg
  obtain ⟨m2, c2, b2⟩ := back hN hc2 ha hn hp2 hg2
  rw [← ht, c1] at c2
  cases c2
  have hrow := cut_row N _ _ _ c1
  have hne : progL (mf m1) L (12 * m1.length + 9) [] 0 ≠ .out := by
    have hg := gd_prog (mf m1) L hrow.ends (12 * m1.length + 9) [] 0 hrow.pos (by omega)
    intro e
    rw [e] at hg
    exact hg
  obtain ⟨x, i, e1, r1⟩ := b1 _ hne
  obtain ⟨y, k, e2, r2⟩ := b2 _ hne
  rw [e1] at e2
  cases e2
  have r3 : LiR (FnR tt) x gs2 := r2.flip fun _ _ h => FnR.flip (ρ' := tt) (fun _ _ _ => trivial) h
  exact LiR.trn (A := FnR tt) (fun _ _ _ p q => p.trn q) r1 r3
end Go.Proofs.YtndgglhppoijnaaDoor
