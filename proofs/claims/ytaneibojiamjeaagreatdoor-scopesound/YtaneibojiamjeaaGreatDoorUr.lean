/-
  3 texts in one: what each proves stands at its head.
-/
import Derived.Test.YtaneibojiamjeaaGreatDoorRw
import Derived.Deep.RegionWith
/-
  The document's seen: all variables and calls of an expression.
-/
namespace Go.Proofs.YtaneibojiamjeaaGreatDoor
open Go.RowKit Go.Maps
set_option maxRecDepth 100000

/-- An expression alone, if it is a variable or a call. -/
def snO (env : List (List UInt8)) (op : Int) (name tail : List UInt8) (ty p q : Int) (xs : List Ex) (i : Nat) : List (Ex × Bool) := if op = 6 ∨ op = 7 then [(.mk op name tail ty p q xs i, decide (op = 6 ∧ name ∉ env))] else []
mutual
def snE (env : List (List UInt8)) : Ex → List (Ex × Bool)
  | .mk op name tail ty p q xs i => snO env op name tail ty p q xs i ++ snL env op name tail 0 xs
def snL (env : List (List UInt8)) (op : Int) (name tail : List UInt8) (i : Nat) : List Ex → List (Ex × Bool)
  | [] => []
  | x :: xs => snE (env ++ bnd6 op name tail i) x ++ snL env op name tail (i + 1) xs
end
section
variable (env : List (List UInt8)) (op : Int) (name tail : List UInt8)
theorem snE_mk (ty p q : Int) (xs : List Ex) (i : Nat) : snE env (.mk op name tail ty p q xs i) = snO env op name tail ty p q xs i ++ snL env op name tail 0 xs := by rw [snE]
theorem snL_nil (i : Nat) : snL env op name tail i [] = [] := by rw [snL]
theorem snL_cons (i : Nat) (x : Ex) (xs : List Ex) : snL env op name tail i (x :: xs) = snE (env ++ bnd6 op name tail i) x ++ snL env op name tail (i + 1) xs := by rw [snL]
theorem snO_len (ty p q : Int) (xs : List Ex) (i : Nat) : (snO env op name tail ty p q xs i).length ≤ 1 := by
  unfold snO
  split <;> simp
end
mutual
theorem snE_len (env : List (List UInt8)) : ∀ x : Ex, (snE env x).length ≤ szE x
  | .mk op name tail ty p q xs i => by
    rw [snE_mk, szE_mk, List.length_append]
    have := snO_len env op name tail ty p q xs i
    have := snL_len env op name tail 0 xs
    omega
theorem snL_len (env : List (List UInt8)) (op : Int) (name tail : List UInt8) (i : Nat) : ∀ xs : List Ex, (snL env op name tail i xs).length ≤ szL xs
  | [] => by rw [snL_nil]; simp
  | x :: xs => by
    rw [snL_cons, szL_cons, List.length_append]
    have := snE_len (env ++ bnd6 op name tail i) x
    have := snL_len env op name tail (i + 1) xs
    omega
end

end Go.Proofs.YtaneibojiamjeaaGreatDoor
/-
  Rows of faults of the call's own, and what stays where blocks of some types are written; the faults of a program's names, plainly.
-/
namespace Go.Proofs.YtaneibojiamjeaaGreatDoor
open Go.RowKit Go.Maps
set_option maxRecDepth 100000

/-- What stays but for blocks of the types S from B on. -/
structure Kx (S : TypeId → Prop) (B : Nat) (w w' : World) : Prop where
  os : w'.os = w.os
  tape : w'.tape = w.tape
  output : w'.output = w.output
  size : w.heap.size ≤ w'.heap.size
  block : ∀ k, k < w.heap.size → (k < B ∨ ∀ cs T m, w.heap[k]? = some (.cells cs T m) → ¬ S T) → w'.heap[k]? = w.heap[k]?
section
variable {S S' : TypeId → Prop} {B : Nat} {w w' w'' : World}
theorem Kx.refl (S : TypeId → Prop) (B : Nat) (w : World) : Kx S B w w := ⟨rfl, rfl, rfl, Nat.le_refl _, fun _ _ _ => rfl⟩
theorem Kx.trans (h : Kx S B w w') (k : Kx S B w' w'') : Kx S B w w'' :=
  ⟨k.os.trans h.os, k.tape.trans h.tape, k.output.trans h.output, Nat.le_trans h.size k.size, fun b hb hc => by
    have e := h.block b hb hc
    refine (k.block b (Nat.lt_of_lt_of_le hb h.size) ?_).trans e
    rw [e]
    exact hc⟩
theorem Kx.mono (h : Kx S B w w') (hs : ∀ t, S t → S' t) : Kx S' B w w' := ⟨h.os, h.tape, h.output, h.size, fun b hb hc => h.block b hb (hc.imp id fun k cs T m e hS => k cs T m e (hs T hS))⟩
theorem Kx.below (h : Kx S B w w') (hB : B ≤ w.heap.size) : Below B w w' := ⟨h.os, h.tape, h.output, h.size, fun b hb => h.block b (by omega) (.inl hb)⟩
theorem Kx.bk (h : Kx S B w w') {b : Nat} {t : TypeId} {vs : List Value} (hb : Bk w b t vs) (ht : ¬ S t) : Bk w' b t vs :=
  (h.block b hb.lt (.inr fun cs T m e => by rw [show w.heap[b]? = _ from hb] at e; cases e; exact ht)).trans hb
theorem own_blk {e : TypeId} {size n : Nat} {v : Value} {xs : List Value} (h : w.ownsRow B e size v n xs) : ∀ k, v.ownBlock = some k → B ≤ k ∧ ∃ cur, w.heap[k]? = some (.cells cur e (0, 0)) := by
  intro k hk
  rcases h.2 with ⟨rfl, _⟩ | ⟨g, cap, cur, rfl, h2, h3, _⟩
  · simp [Value.ownBlock] at hk
  · simp only [Value.ownBlock, Option.some.injEq] at hk
    subst hk
    exact ⟨h2, cur, h3⟩
theorem Kx.own (h : Kx S B w w') {B' : Nat} {e : TypeId} {size n : Nat} {v : Value} {xs : List Value} (ho : w.ownsRow B' e size v n xs) (ht : ¬ S e) : w'.ownsRow B' e size v n xs := owns_keep ho fun b hb => by
  obtain ⟨_, cur, hc⟩ := own_blk ho b hb
  exact h.block b (Array.getElem?_eq_some_iff.1 hc).1 (.inr fun cs T m e' => by rw [hc] at e'; cases e'; exact ht)
theorem Kx.grown {e : TypeId} {size n : Nat} {v : Value} {xs : List Value} (ho : w.ownsRow B e size v n xs) (hg : w.grownBy w' v.ownBlock) (hS : S e) : Kx S B w w' :=
  ⟨hg.os, hg.tape, hg.output, hg.size, fun k hk hc => hg.block k hk fun e' => by
    obtain ⟨h1, cur, h2⟩ := own_blk ho k e'.symm
    rcases hc with hc | hc
    · omega
    · exact hc _ _ _ h2 hS⟩
theorem Kx.fl (h : Kx S B w w') {A : Nat → Prop} {ao : Option Addr} {gs : List Fn1} (hF : FlW w A ao gs) (hA : ∀ k, A k → k < B) : FlW w' A ao gs := hF.keep2 h.size fun b hb hl => h.block b hl (.inl (hA b hb))
theorem Kx.pl (h : Kx S B w w') {A : Nat → Prop} {ao : Option Addr} {ps : List Pm} (hP : PlW w A ao ps) (hA : ∀ k, A k → k < B) : PlW w' A ao ps := hP.keep h.size fun b hb hl => h.block b hl (.inl (hA b hb))
end

/-- The cells of faults. -/
def ftC (fs : List (Int × Int)) : List Value := fs.flatMap fun f => [.int .i64 f.1, .int .i64 f.2]
theorem ftC_cons (f : Int × Int) (fs : List (Int × Int)) : ftC (f :: fs) = .int .i64 f.1 :: .int .i64 f.2 :: ftC fs := by simp [ftC]
theorem ftC_len : ∀ fs : List (Int × Int), (ftC fs).length = fs.length * 2
  | [] => rfl
  | f :: fs => by rw [ftC_cons, List.length_cons, List.length_cons, ftC_len fs, List.length_cons]; omega
theorem ftC_get : ∀ (fs : List (Int × Int)) (k : Nat), k < fs.length → (ftC fs)[k * 2]? = some (.int .i64 (fs.getD k (0, 0)).1) ∧ (ftC fs)[k * 2 + 1]? = some (.int .i64 (fs.getD k (0, 0)).2)
  | [], k, h => by simp at h
  | f :: fs, 0, _ => by rw [ftC_cons]; exact ⟨rfl, rfl⟩
  | f :: fs, k + 1, h => by
    rw [ftC_cons, show (k + 1) * 2 = k * 2 + 1 + 1 by omega, List.getElem?_cons_succ, List.getElem?_cons_succ, List.getElem?_cons_succ, List.getElem?_cons_succ, List.getD_cons_succ]
    exact ftC_get fs k (by simpa using h)
/-- A row of faults of the call's own. -/
def FtW (w : World) (B : Nat) (v : Value) (fs : List (Int × Int)) : Prop := w.ownsRow B 31 2 v fs.length (ftC fs)
theorem FtW.nil (w : World) (B : Nat) : FtW w B (.slice none 0 0) [] := World.ownsRow_nil _ _ _ _
theorem FtW.row {w : World} {B : Nat} {v : Value} {fs : List (Int × Int)} (h : FtW w B v fs) : ∃ ao cap, v = .slice ao fs.length cap ∧ ∀ k, k < fs.length → ∃ g, ao = some ⟨g, 0, none⟩ ∧ w.cell? ⟨g, k * 2, none⟩ = some (.int .i64 (fs.getD k (0, 0)).1) ∧ w.cell? ⟨g, k * 2 + 1, none⟩ = some (.int .i64 (fs.getD k (0, 0)).2) := by
  have ho : w.ownsRow B 31 2 v fs.length (ftC fs) := h
  rcases ho.2 with ⟨rfl, h0⟩ | ⟨g, c, cur, rfl, hb, hg, h1, h2, h3, h4⟩
  · have e := List.length_eq_zero_iff.1 h0
    subst e
    exact ⟨none, 0, rfl, fun k hk => by simp at hk⟩
  · refine ⟨_, c, rfl, fun k hk => ⟨g, rfl, ?_⟩⟩
    have hc : ∀ j u, (ftC fs)[j]? = some u → w.cell? ⟨g, j, none⟩ = some u := fun j u hj => by
      have hl : j < (ftC fs).length := (List.getElem?_eq_some_iff.1 hj).1
      have h5 : (cur.toList.take (fs.length * 2))[j]? = some u := by rw [h4]; exact hj
      rw [List.getElem?_take_of_lt (by rw [← ftC_len]; exact hl)] at h5
      unfold World.cell?
      simp only [hg]
      simpa using h5
    have := ftC_get fs k hk
    exact ⟨hc _ _ this.1, hc _ _ this.2⟩

/-- Names of the call's own: one more. -/
theorem on_one {w : World} {B : Nat} {v : Value} {ws : List (List UInt8)} (h : OwN w B v ws) (hB : B ≤ w.heap.size) (hn : ws.length ≤ 1000000000) {g o cap : Nat} {s : List UInt8} (h0 : w.cell? ⟨g, o, none⟩ = some (.string (bs s))) :
    ∃ v' w', (Builtin.append_ #[35, 35] 35 #[v, .slice (some ⟨g, o, none⟩) 1 cap]).run Tryz.prog w = .ok v' w' ∧ OwN w' B v' (ws ++ [s]) ∧ Kx (· = 9) B w w' := by
  obtain ⟨i0, hi, hz0, hz1, hz2⟩ := info_parts Tryz.infoSt
  obtain ⟨v', w', hr, ho', hgr, _⟩ := run_append_own (P := Tryz.prog) w B 35 35 9 i0 _ 1 16 Tryz.underSt hi hz0 hz1 hz2 rfl (by decide) v ws.length _ h ⟨g, o, none⟩ 1 cap [.string (bs s)] rfl
    (fun j u hj => by
      match j, hj with
      | 0, hj => cases hj; rw [Addr.add_mid, Nat.add_zero]; exact h0)
    (by intro u hu; simp only [List.mem_cons, List.not_mem_nil, or_false] at hu; rcases hu with rfl; rfl) (by unfold maxLen; omega) (by omega) hB
  refine ⟨v', w', hr, ?_, .grown h hgr rfl⟩
  unfold OwN
  rw [List.length_append, List.map_append]
  exact ho'

def yd : Ex × Bool := (ed, false)
theorem snC_at {w : World} {A : Nat → Prop} : ∀ {ys : List (Ex × Bool)} {cs : List Value}, snC w A ys cs → ∀ k, k < ys.length → ∃ us, (∀ j u, us[j]? = some u → cs[k * 8 + j]? = some u) ∧ cs[k * 8 + 7]? = some (.bool (ys.getD k yd).2) ∧ ExW w A (ys.getD k yd).1 us
  | [], _, _, k, h => by simp at h
  | y :: ys, cs, h, 0, _ => by
    obtain ⟨us, es, rfl, h1, h2⟩ := h
    have hl := h1.len
    refine ⟨us, fun j u hj => ?_, ?_, h1⟩
    · have := (List.getElem?_eq_some_iff.1 hj).1
      rw [Nat.zero_mul, Nat.zero_add, List.getElem?_append_left this]
      exact hj
    · rw [Nat.zero_mul, Nat.zero_add, List.getElem?_append_right (by omega), hl]
      rfl
  | y :: ys, cs, h, k + 1, hk => by
    obtain ⟨us, es, rfl, h1, h2⟩ := h
    have hl := h1.len
    obtain ⟨vs, g1, g2, g3⟩ := snC_at h2 k (by simpa using hk)
    have e : ∀ j, (us ++ (Value.bool y.2 :: es))[(k + 1) * 8 + j]? = es[k * 8 + j]? := fun j => by
      rw [List.getElem?_append_right (by omega), show (k + 1) * 8 + j - us.length = (k * 8 + j) + 1 by omega, List.getElem?_cons_succ]
    exact ⟨vs, fun j u hj => by rw [e]; exact g1 j u hj, by rw [e]; exact g2, g3⟩
theorem SnW.at {w : World} {A : Nat → Prop} {B : Nat} {v : Value} {ys : List (Ex × Bool)} (h : SnW w A B v ys) : ∃ ao cap, v = .slice ao ys.length cap ∧ ∀ k, k < ys.length → ∃ g us, ao = some ⟨g, 0, none⟩ ∧ w.rangeAt g (k * 8) us ∧ w.cell? ⟨g, k * 8 + 7, none⟩ = some (.bool (ys.getD k yd).2) ∧ ExW w A (ys.getD k yd).1 us := by
  obtain ⟨ao, cap, rfl, hr⟩ := h.row
  refine ⟨ao, cap, rfl, fun k hk => ?_⟩
  rcases hr with ⟨_, _, rfl⟩ | ⟨g, ds, rfl, _, _, hd, hc⟩
  · simp at hk
  · obtain ⟨us, h1, h2, h3⟩ := snC_at hd k hk
    exact ⟨g, us, rfl, fun j u hj => hc _ _ (h1 j u hj), hc _ _ h2, h3⟩

/-! The faults, plainly. -/
def prmF (ps : List Pm) (j : Nat) : List (Int × Int) := if (ps.getD j pd).name ∈ (ps.take j).map (·.name) then [(30, ((ps.getD j pd).pos : Int))] else []
def prmK (ps : List Pm) (k : Nat) : List (Int × Int) := (List.range k).flatMap (prmF ps)
theorem prmK_step (ps : List Pm) (k : Nat) : prmK ps (k + 1) = prmK ps k ++ prmF ps k := by unfold prmK; rw [List.range_succ, List.flatMap_append, List.flatMap_singleton]
/-- Of a call. -/
def calF (gs : List Fn1) (name : List UInt8) (n i : Nat) : List (Int × Int) := if hdN gs name < 0 then [(32, (i : Int))] else if (gs.getD (hdN gs name).toNat fd).pms.length ≠ n then [(33, (i : Int))] else []
def snF (gs : List Fn1) : Ex × Bool → List (Int × Int)
  | (.mk op name _ _ _ _ xs i, fr) => (if fr then [(31, (i : Int))] else []) ++ if op = 7 then calF gs name xs.length i else []
def headF (gs : List Fn1) (k : Nat) : List (Int × Int) := if hdN gs (gs.getD k fd).name < k then [(30, ((gs.getD k fd).pos : Int))] else []
def bodF (gs : List Fn1) (g : Fn1) : List (Int × Int) := (snE (g.pms.map (·.name)) g.body).flatMap (snF gs)
def fnF (gs : List Fn1) (k : Nat) : List (Int × Int) := headF gs k ++ (prmK (gs.getD k fd).pms (gs.getD k fd).pms.length ++ bodF gs (gs.getD k fd))
def fnK (gs : List Fn1) (k : Nat) : List (Int × Int) := (List.range k).flatMap (fnF gs)
/-- All faults of a program's names. -/
def ftP (gs : List Fn1) : List (Int × Int) := fnK gs gs.length
/-- The first one of the least place. -/
def lsP (fs : List (Int × Int)) : Int × Int := fs.foldl (fun l f => if l.1 = 0 ∨ f.2 < l.2 then f else l) (0, 0)
end Go.Proofs.YtaneibojiamjeaaGreatDoor
/-
  Where the document's scope tells nothing, scope.Check tells nothing: plainly.
-/
namespace Go.Proofs.YtaneibojiamjeaaGreatDoor

/-- The first definition of a name has so many parameters. -/
def cntF (gs : List Fn1) (s : List UInt8) : Option Nat := (gs.find? fun g => g.name == s).map fun g => g.pms.length
theorem dfnL_cons (g : Fn1) (gs : List Fn1) (q : (List UInt8 → Option Nat) × (Int × Int)) : dfnL (g :: gs) q = dfnL gs (dfnP g q) := rfl
theorem dfnL_cnt : ∀ (gs : List Fn1) (f : List UInt8 → Option Nat) (p : Int × Int) (s : List UInt8), (dfnL gs (f, p)).1 s = match f s with | some n => some n | none => cntF gs s
  | [], f, p, s => by
    show f s = _
    cases f s <;> simp [cntF]
  | g :: gs, f, p, s => by
    rw [dfnL_cons]
    unfold dfnP
    dsimp only
    cases hf : f g.name with
    | some n =>
      dsimp only
      rw [dfnL_cnt gs f _ s]
      cases hs : f s with
      | some m => rfl
      | none =>
        have : ¬ g.name = s := by intro e; rw [e, hs] at hf; cases hf
        simp [cntF, this]
    | none =>
      dsimp only
      rw [dfnL_cnt gs _ _ s]
      unfold putN
      by_cases e : s = g.name
      · subst e
        rw [if_pos rfl, hf]
        simp [cntF]
      · have e' : ¬ g.name = s := fun h => e h.symm
        rw [if_neg e]
        cases hs : f s with
        | some m => rfl
        | none => simp [cntF, e']
theorem dfnL_no : ∀ (gs : List Fn1) (f : List UInt8 → Option Nat) (p : Int × Int), (∀ k, k < gs.length → f (gs.getD k fd).name = none ∧ ∀ j, j < k → ¬ (gs.getD j fd).name = (gs.getD k fd).name) → (dfnL gs (f, p)).2 = p
  | [], _, _, _ => rfl
  | g :: gs, f, p, h => by
    rw [dfnL_cons]
    have h0 : f g.name = none := (h 0 (by simp)).1
    unfold dfnP
    dsimp only
    rw [h0]
    dsimp only
    refine dfnL_no gs _ p fun k hk => ⟨?_, fun j hj => ?_⟩
    · have a := h (k + 1) (by simpa using hk)
      rw [List.getD_cons_succ] at a
      have b := a.2 0 (by omega)
      rw [List.getD_cons_zero] at b
      unfold putN
      rw [if_neg fun e => b e.symm]
      exact a.1
    · have a := h (k + 1) (by simpa using hk)
      have b := a.2 (j + 1) (by omega)
      rwa [List.getD_cons_succ, List.getD_cons_succ] at b
theorem hdN_lt {gs : List Fn1} {s : List UInt8} {j : Nat} (hj : j < gs.length) (e : (gs.getD j fd).name = s) : hdN gs s ≤ j := by
  induction j using Nat.strongRecOn with
  | ind j ih =>
    by_cases h : ∃ i, i < j ∧ (gs.getD i fd).name = s
    · obtain ⟨i, hi, e2⟩ := h
      have := ih i hi (by omega) e2
      omega
    · rw [hdN_at hj (fun i hi e2 => h ⟨i, hi, e2⟩) e]
      exact Int.le_refl _
theorem head_no {gs : List Fn1} (h : ∀ k, k < gs.length → headF gs k = []) : ∀ k, k < gs.length → ∀ j, j < k → ¬ (gs.getD j fd).name = (gs.getD k fd).name := by
  intro k hk j hj e
  have a := h k hk
  unfold headF at a
  have b := hdN_lt (gs := gs) (j := j) (by omega) e
  rw [if_pos (by omega)] at a
  cases a

theorem prmL_no (ps : List Pm) : ∀ k, k ≤ ps.length → prmK ps k = [] → ∀ p, prmL [] (ps.take k) p = p
  | 0, _, _, p => by rw [List.take_zero, prmL]
  | k + 1, hk, h, p => by
    rw [prmK_step, List.append_eq_nil_iff] at h
    rw [prmL_step ps [] k p (by omega), prmL_no ps k (by omega) h.1 p, List.nil_append]
    have a := h.2
    unfold prmF at a
    have b : ¬ (ps.getD k pd).name ∈ (ps.take k).map (·.name) := by
      intro e
      rw [if_pos e] at a
      cases a
    rw [if_neg]
    show ¬ 0 < (nmsP (ps.take k)).count _
    rw [List.count_pos_iff]
    exact b

theorem hdN_find (gs : List Fn1) (s : List UInt8) : (hdN gs s < 0 ↔ cntF gs s = none) ∧ (¬ hdN gs s < 0 → cntF gs s = some (gs.getD (hdN gs s).toNat fd).pms.length) := by
  unfold hdN cntF
  cases h : gs.findIdx? (fun g => g.name == s) with
  | none =>
    have : gs.find? (fun g => g.name == s) = none := by
      rw [List.find?_eq_none]
      rw [List.findIdx?_eq_none_iff] at h
      intro g hg
      simp [h g hg]
    rw [this]
    exact ⟨⟨fun _ => rfl, fun _ => by decide⟩, fun e => absurd (by decide) e⟩
  | some i =>
    have hi := List.findIdx?_eq_some_iff_getElem.1 h
    obtain ⟨h1, h2, h3⟩ := hi
    have : gs.find? (fun g => g.name == s) = some gs[i] := by
      rw [List.find?_eq_some_iff_getElem]
      exact ⟨h2, i, h1, rfl, fun j hj => by simpa using h3 j hj⟩
    rw [this]
    refine ⟨⟨fun e => ?_, fun e => by cases e⟩, fun _ => ?_⟩
    · exact absurd e (by simp)
    · simp [List.getD_eq_getElem?_getD, List.getElem?_eq_getElem h1]

theorem callP_no {gs : List Fn1} {name : List UInt8} {n i : Nat} (h : calF gs name n i = []) {pf : List UInt8 → Option Nat} (hp : ∀ s, pf s = cntF gs s) (p : Int × Int) : callP pf name n p i = p := by
  unfold calF at h
  have hh := hdN_find gs name
  unfold callP
  by_cases e : hdN gs name < 0
  · rw [if_pos e] at h
    cases h
  · rw [if_neg e] at h
    rw [hp, hh.2 e]
    dsimp only
    by_cases e2 : (gs.getD (hdN gs name).toNat fd).pms.length = n
    · rw [if_pos e2]
    · rw [if_pos e2] at h
      cases h
theorem szE_mem : ∀ (xs : List Ex) (y : Ex), y ∈ xs → szE y ≤ szL xs
  | x :: xs, y, h => by
    rw [szL_cons]
    rcases List.mem_cons.1 h with rfl | h
    · omega
    · have := szE_mem xs y h
      omega
theorem wk_no {gs : List Fn1} {pf : List UInt8 → Option Nat} (hp : ∀ s, pf s = cntF gs s) : ∀ (n : Nat) (x : Ex), szE x ≤ n → ∀ (env env' : List (List UInt8)), (∀ s, 0 < env.count s ↔ s ∈ env') → (snE env' x).flatMap (snF gs) = [] → ∀ p, wkE pf env x p = p := by
  intro n
  induction n with
  | zero => intro x h; have := szE_pos x; omega
  | succ n ih =>
    intro x hs env env' hm hn p
    cases x with
    | mk op name tail ty a b xs i =>
      rw [szE_mk] at hs
      rw [snE_mk, List.flatMap_append, List.append_eq_nil_iff] at hn
      rw [wkE_mk]
      have e1 : seeP pf (cnt env) op name xs.length i p = p := by
        have h1 := hn.1
        unfold snO at h1
        unfold seeP
        by_cases e : op = 6
        · subst e
          rw [if_pos (.inl rfl), List.flatMap_singleton] at h1
          unfold snF at h1
          rw [List.append_eq_nil_iff] at h1
          by_cases hq : name ∈ env'
          · have : ¬ (cnt env name = 0) := by
              have := (hm name).2 hq
              show ¬ env.count name = 0
              omega
            simp [this]
          · have h2 := h1.1
            simp [hq] at h2
        · by_cases e7 : op = 7
          · subst e7
            rw [if_pos (.inr rfl), List.flatMap_singleton] at h1
            unfold snF at h1
            rw [List.append_eq_nil_iff] at h1
            have h2 := h1.2
            rw [if_pos rfl] at h2
            dsimp only
            have e8 : ¬ ((7 : Int) = 6 ∧ cnt env name = 0) := fun h => absurd h.1 (by decide)
            rw [if_neg e8, if_pos rfl]
            exact callP_no h2 hp p
          · dsimp only
            rw [if_neg e7, if_neg (fun h => e h.1)]
      rw [e1]
      have hl : ∀ (ys : List Ex) (j : Nat), (∀ y ∈ ys, szE y ≤ n) → (snL env' op name tail j ys).flatMap (snF gs) = [] → wkL pf env op name tail j ys p = p := by
        intro ys
        induction ys with
        | nil => intro j _ _; rw [wkL_nil]
        | cons y ys ih2 =>
          intro j hy h
          rw [snL_cons, List.flatMap_append, List.append_eq_nil_iff] at h
          rw [wkL_cons, ih y (hy y (by simp)) _ (env' ++ bnd6 op name tail j) (fun s => ?_) h.1 p]
          · exact ih2 (j + 1) (fun y' h' => hy y' (by simp [h'])) h.2
          · rw [List.count_append, List.mem_append, ← hm s, ← List.count_pos_iff (l := bnd6 op name tail j)]
            omega
      refine hl xs 0 (fun y hy => ?_) hn.2
      have : szE y ≤ szL xs := szE_mem xs y hy
      omega
theorem lsP_no {fs : List (Int × Int)} (hz : ∀ f ∈ fs, ¬ f.1 = 0) : (lsP fs).1 = 0 → fs = [] := by
  have key : ∀ (fs : List (Int × Int)) (l : Int × Int), (∀ f ∈ fs, ¬ f.1 = 0) → ¬ l.1 = 0 → ¬ (fs.foldl (fun l f => if l.1 = 0 ∨ f.2 < l.2 then f else l) l).1 = 0 := by
    intro fs
    induction fs with
    | nil => intro l _ h; exact h
    | cons f fs ih =>
      intro l hz h
      rw [List.foldl_cons]
      refine ih _ (fun g hg => hz g (by simp [hg])) ?_
      split
      · exact hz f (by simp)
      · exact h
  cases fs with
  | nil => exact fun _ => rfl
  | cons f fs =>
    intro h
    unfold lsP at h
    rw [List.foldl_cons, if_pos (.inl rfl)] at h
    exact absurd h (key fs f (fun g hg => hz g (by simp [hg])) (hz f (by simp)))
theorem ftP_why (gs : List Fn1) : ∀ f ∈ ftP gs, ¬ f.1 = 0 := by
  intro f hf
  unfold ftP fnK at hf
  rw [List.mem_flatMap] at hf
  obtain ⟨k, _, hk⟩ := hf
  unfold fnF at hk
  rw [List.mem_append, List.mem_append] at hk
  rcases hk with h | h | h
  · unfold headF at h
    split at h
    · simp only [List.mem_singleton] at h
      rw [h]
      intro e; cases e
    · cases h
  · unfold prmK at h
    rw [List.mem_flatMap] at h
    obtain ⟨j, _, h⟩ := h
    unfold prmF at h
    split at h
    · simp only [List.mem_singleton] at h
      rw [h]
      intro e; cases e
    · cases h
  · unfold bodF at h
    rw [List.mem_flatMap] at h
    obtain ⟨⟨⟨op, name, _, _, _, _, xs, i⟩, fr⟩, _, h⟩ := h
    unfold snF at h
    rw [List.mem_append] at h
    rcases h with h | h
    · split at h
      · simp only [List.mem_singleton] at h
        rw [h]
        intro e; cases e
      · cases h
    · split at h
      · unfold calF at h
        split at h
        · simp only [List.mem_singleton] at h
          rw [h]
          intro e; cases e
        · split at h
          · simp only [List.mem_singleton] at h
            rw [h]
            intro e; cases e
          · cases h
      · cases h
/-- Where the document's scope tells nothing, scope.Check tells nothing. -/
theorem scP_no {gs : List Fn1} (h : (lsP (ftP gs)).1 = 0) : (scP gs).1 = 0 := by
  have h0 := lsP_no (ftP_why gs) h
  have h1 : ∀ k, k < gs.length → fnF gs k = [] := fun k hk => by
    unfold ftP fnK at h0
    rw [List.flatMap_eq_nil_iff] at h0
    exact h0 k (List.mem_range.2 hk)
  have hh : ∀ k, k < gs.length → headF gs k = [] ∧ prmK (gs.getD k fd).pms (gs.getD k fd).pms.length = [] ∧ bodF gs (gs.getD k fd) = [] := fun k hk => by
    have := h1 k hk
    unfold fnF at this
    rw [List.append_eq_nil_iff, List.append_eq_nil_iff] at this
    exact this
  unfold scP
  have e1 : (dfnL gs (fun _ => none, (0, 0))).2 = (0, 0) := dfnL_no gs _ _ fun k hk => ⟨rfl, head_no (fun k hk => (hh k hk).1) k hk⟩
  have e2 : ∀ s, (dfnL gs (fun _ => none, (0, 0))).1 s = cntF gs s := fun s => dfnL_cnt gs _ _ s
  rw [e1]
  have e3 : ∀ hs : List Fn1, (∀ g ∈ hs, ∃ k, k < gs.length ∧ g = gs.getD k fd) → winL (dfnL gs (fun _ => none, (0, 0))).1 hs (0, 0) = (0, 0) := by
    intro hs
    induction hs with
    | nil => intro _; rfl
    | cons g hs ih =>
      intro hg
      obtain ⟨k, hk, rfl⟩ := hg g (by simp)
      show winL _ hs (winP _ (gs.getD k fd) (0, 0)) = _
      have a := hh k hk
      have b : prmL [] (gs.getD k fd).pms (0, 0) = (0, 0) := by
        have := prmL_no (gs.getD k fd).pms _ (Nat.le_refl _) a.2.1 (0, 0)
        rwa [List.take_length] at this
      have d : winP (dfnL gs (fun _ => none, (0, 0))).1 (gs.getD k fd) (0, 0) = (0, 0) := by
        unfold winP
        rw [b]
        exact wk_no (gs := gs) e2 (szE (gs.getD k fd).body) (gs.getD k fd).body (Nat.le_refl _) (nmsP (gs.getD k fd).pms) (nmsP (gs.getD k fd).pms) (fun s => List.count_pos_iff) a.2.2 (0, 0)
      rw [d]
      exact ih fun g' h' => hg g' (by simp [h'])
  have e4 := e3 gs fun g hg => by
    obtain ⟨k, hk, e⟩ := List.getElem_of_mem hg
    exact ⟨k, hk, by rw [List.getD_eq_getElem?_getD, List.getElem?_eq_getElem hk]; exact e.symm⟩
  rw [e4]
end Go.Proofs.YtaneibojiamjeaaGreatDoor
