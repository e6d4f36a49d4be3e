/-
  6 texts in one: what each proves stands at its head.
-/
import Derived.Test.YtaneibojiamjeaaGreatDoorUki
import Derived.Test.YtaneibojiamjeaaGreatDoorUjb
import Derived.Test.YtaneibojiamjeaaGreatDoorUt
import Derived.Deep.RegionHeld3
import Derived.Deep.DeepCutAuto
import Derived.Test.YtaneibojiamjeaaGreatDoorUkc
import Derived.Test.YtaneibojiamjeaaGreatDoorUkg
import Derived.Test.YtaneibojiamjeaaGreatDoorUr
import Derived.Test.YtaneibojiamjeaaGreatDoorUkf
/-
  Sound programs, plainly: turned round, and with one definition more.
-/
namespace Go.Proofs.YtaneibojiamjeaaGreatDoor
open Go.RowKit
set_option maxRecDepth 100000

theorem cntF_cons (g : Fn1) (gs : List Fn1) (s : List UInt8) : cntF (g :: gs) s = if g.name = s then some g.pms.length else cntF gs s := by
  unfold cntF
  rw [List.find?_cons]
  by_cases h : g.name = s
  · rw [if_pos h]; simp [h]
  · rw [if_neg h]
    have : (g.name == s) = false := by simpa using h
    rw [this]
theorem cntF_nil (s : List UInt8) : cntF [] s = none := rfl
theorem cntF_app (new : Fn1) (s : List UInt8) (hs : s ≠ new.name) : ∀ gs : List Fn1, cntF (gs ++ [new]) s = cntF gs s
  | [] => by rw [List.nil_append, cntF_cons, cntF_nil, if_neg fun e => hs e.symm]
  | g :: gs => by rw [List.cons_append, cntF_cons, cntF_cons, cntF_app new s hs gs]
theorem cntF_iff {s : List UInt8} {m : Nat} : ∀ {gs : List Fn1}, gs.Pairwise (fun a b => a.name ≠ b.name) → (cntF gs s = some m ↔ ∃ g ∈ gs, g.name = s ∧ g.pms.length = m)
  | [], _ => by simp [cntF_nil]
  | g :: gs, h => by
    obtain ⟨h1, h2⟩ := List.pairwise_cons.1 h
    rw [cntF_cons]
    by_cases e : g.name = s
    · rw [if_pos e]
      constructor
      · intro k
        exact ⟨g, List.mem_cons_self, e, Option.some.inj k⟩
      · rintro ⟨x, hx, e1, e2⟩
        rcases List.mem_cons.1 hx with rfl | hx
        · rw [e2]
        · exact absurd (e.trans e1.symm) (h1 x hx)
    · rw [if_neg e, cntF_iff h2]
      constructor
      · rintro ⟨x, hx, r⟩; exact ⟨x, List.mem_cons_of_mem _ hx, r⟩
      · rintro ⟨x, hx, e1, e2⟩
        rcases List.mem_cons.1 hx with rfl | hx
        · exact absurd e1 e
        · exact ⟨x, hx, e1, e2⟩
theorem cntF_rev {gs : List Fn1} (h : gs.Pairwise (fun a b => a.name ≠ b.name)) (s : List UInt8) : cntF gs.reverse s = cntF gs s := by
  have h' : gs.reverse.Pairwise (fun a b => a.name ≠ b.name) := List.pairwise_reverse.2 (h.imp fun k e => k e.symm)
  apply Option.ext
  intro m
  rw [cntF_iff h', cntF_iff h]
  simp
theorem calF_cnt (gs : List Fn1) (name : List UInt8) (n i : Nat) : calF gs name n i = match cntF gs name with | none => [(32, (i : Int))] | some m => if m ≠ n then [(33, (i : Int))] else [] := by
  obtain ⟨h1, h2⟩ := hdN_find gs name
  unfold calF
  by_cases h : hdN gs name < 0
  · rw [if_pos h, h1.1 h]
  · rw [if_neg h, h2 h]
theorem snF_cnt {gs gs' : List Fn1} {y : Ex × Bool} (h : cntF gs (nmX y.1) = cntF gs' (nmX y.1)) : snF gs y = snF gs' y := by
  obtain ⟨⟨op, name, tail, ty, p, q, xs, i⟩, fr⟩ := y
  have h : cntF gs name = cntF gs' name := h
  unfold snF
  dsimp only
  rw [calF_cnt, calF_cnt, h]
mutual
theorem sn_ad : ∀ (x : Ex) (env : List (List UInt8)) (y : Ex × Bool), y ∈ snE env x → nmX y.1 ∈ adE x
  | .mk op name tail ty p q xs i, env, y, h => by
    rw [snE_mk, List.mem_append] at h
    rw [adE_mk, List.mem_append]
    rcases h with h | h
    · unfold snO at h
      split at h
      · rename_i ho
        rw [List.mem_singleton] at h
        subst h
        refine .inl ?_
        show name ∈ onE op name tail
        unfold onE
        rw [if_pos (by rcases ho with ho | ho <;> simp [ho])]
        exact List.mem_singleton.2 rfl
      · cases h
    · exact .inr (sn_adL xs env op name tail 0 y h)
theorem sn_adL : ∀ (xs : List Ex) (env : List (List UInt8)) (op : Int) (name tail : List UInt8) (i : Nat) (y : Ex × Bool), y ∈ snL env op name tail i xs → nmX y.1 ∈ adL xs
  | [], env, op, name, tail, i, y, h => by rw [snL_nil] at h; cases h
  | x :: xs, env, op, name, tail, i, y, h => by
    rw [snL_cons, List.mem_append] at h
    rw [adL_cons, List.mem_append]
    rcases h with h | h
    · exact .inl (sn_ad x _ y h)
    · exact .inr (sn_adL xs env op name tail (i + 1) y h)
end
theorem flatMap_congr' {α β : Type} {f g : α → List β} : ∀ {l : List α}, (∀ x ∈ l, f x = g x) → l.flatMap f = l.flatMap g
  | [], _ => rfl
  | a :: l, h => by rw [List.flatMap_cons, List.flatMap_cons, h a List.mem_cons_self, flatMap_congr' fun x hx => h x (List.mem_cons_of_mem _ hx)]
theorem bodF_cnt {gs gs' : List Fn1} {g : Fn1} (h : ∀ s ∈ adE g.body, cntF gs s = cntF gs' s) : bodF gs g = bodF gs' g := by
  unfold bodF
  exact flatMap_congr' fun y hy => snF_cnt (h _ (sn_ad g.body _ y hy))

/-- A program without faults. -/
structure Snd (gs : List Fn1) : Prop where
  names : gs.Pairwise (fun a b => a.name ≠ b.name)
  prms : ∀ g ∈ gs, prmK g.pms g.pms.length = []
  bods : ∀ g ∈ gs, bodF gs g = []
theorem ft_nil {gs : List Fn1} : ftP gs = [] ↔ ∀ k, k < gs.length → fnF gs k = [] := by
  unfold ftP fnK
  rw [List.flatMap_eq_nil_iff]
  constructor
  · exact fun h k hk => h k (List.mem_range.2 hk)
  · exact fun h k hk => h k (List.mem_range.1 hk)
theorem getD_at {gs : List Fn1} {k : Nat} (hk : k < gs.length) : gs.getD k fd = gs[k] := by rw [List.getD_eq_getElem?_getD, List.getElem?_eq_getElem hk]; rfl
theorem snd_of {gs : List Fn1} (h : ftP gs = []) : Snd gs := by
  have h := ft_nil.1 h
  have hk : ∀ k, k < gs.length → headF gs k = [] ∧ prmK (gs.getD k fd).pms (gs.getD k fd).pms.length = [] ∧ bodF gs (gs.getD k fd) = [] := fun k hk => by
    have := h k hk
    unfold fnF at this
    rw [List.append_eq_nil_iff, List.append_eq_nil_iff] at this
    exact this
  refine ⟨List.pairwise_iff_getElem.2 fun i j hi hj hij e => ?_, fun g hg => ?_, fun g hg => ?_⟩
  · have := head_no (fun k hk' => (hk k hk').1) j hj i hij
    rw [getD_at hi, getD_at hj] at this
    exact this e
  · obtain ⟨k, hk', rfl⟩ := List.mem_iff_getElem.1 hg
    have := (hk k hk').2.1
    rwa [getD_at hk'] at this
  · obtain ⟨k, hk', rfl⟩ := List.mem_iff_getElem.1 hg
    have := (hk k hk').2.2
    rwa [getD_at hk'] at this
theorem of_snd {gs : List Fn1} (h : Snd gs) : ftP gs = [] := by
  refine ft_nil.2 fun k hk => ?_
  unfold fnF
  have hm : gs.getD k fd ∈ gs := by rw [getD_at hk]; exact List.getElem_mem hk
  rw [h.prms _ hm, h.bods _ hm]
  have : headF gs k = [] := by
    unfold headF
    rw [if_neg]
    intro hlt
    obtain ⟨j, hj, e⟩ := (hdN_before hk).1 hlt
    have hj' : j < gs.length := by omega
    rw [getD_at hj', getD_at hk] at e
    exact List.pairwise_iff_getElem.1 h.names j k hj' hk hj e
  rw [this]
  rfl
theorem snd_rev {gs : List Fn1} (h : Snd gs) : Snd gs.reverse :=
  ⟨List.pairwise_reverse.2 (h.names.imp fun k e => k e.symm), fun g hg => h.prms g (by simpa using hg), fun g hg => by
    rw [bodF_cnt (gs' := gs) fun s _ => cntF_rev h.names s]
    exact h.bods g (by simpa using hg)⟩
/-- Check of a sound program turned round tells nothing. -/
theorem scP_rev {gs : List Fn1} (hp : (gs.flatMap nmF).Nodup) (h : (scP gs).1 = 0) : (scP gs.reverse).1 = 0 := by
  rw [scP_lsP hp] at h
  have := of_snd (snd_rev (snd_of (lsP_no (ftP_why gs) h)))
  exact scP_no (by rw [this]; rfl)
/-- In a sound program what is free in a body is a parameter. -/
theorem snd_free {gs : List Fn1} (h : Snd gs) {g : Fn1} (hg : g ∈ gs) {n : List UInt8} (hn : n ∈ fsE g.body) : n ∈ g.pms.map (·.name) := by
  refine Decidable.byContradiction fun hx => ?_
  have h1 : n ∈ fsY (snE (g.pms.map (·.name)) g.body) := (fs_in n g.body _).2 ⟨hx, hn⟩
  unfold fsY at h1
  obtain ⟨y, hy, rfl⟩ := List.mem_map.1 h1
  obtain ⟨hy1, hy2⟩ := List.mem_filter.1 hy
  have h2 := h.bods g hg
  unfold bodF at h2
  rw [List.flatMap_eq_nil_iff] at h2
  have h3 := h2 y hy1
  obtain ⟨⟨op, name, tail, ty, p, q, xs, i⟩, fr⟩ := y
  have hy2 : fr = true := hy2
  subst hy2
  unfold snF at h3
  simp at h3
/-- One definition more, of a new name, changes nothing. -/
theorem scP_more {gs : List Fn1} {new : Fn1} (hpm : new.pms = []) (hb : ∀ env, snE env new.body = []) (h1 : ∀ g ∈ gs, g.name ≠ new.name) (h2 : ∀ g ∈ gs, new.name ∉ adE g.body) : scP (gs ++ [new]) = scP gs := by
  have hat : ∀ k, k < gs.length → (gs ++ [new]).getD k fd = gs.getD k fd := fun k hk => by
    rw [List.getD_eq_getElem?_getD, List.getElem?_append_left hk, List.getD_eq_getElem?_getD]
  have hlast : (gs ++ [new]).getD gs.length fd = new := by
    rw [List.getD_eq_getElem?_getD, List.getElem?_append_right (Nat.le_refl _), Nat.sub_self]
    rfl
  have hlen : (gs ++ [new]).length = gs.length + 1 := by simp
  have hhead : ∀ k, k < gs.length → headF (gs ++ [new]) k = headF gs k := fun k hk => by
    unfold headF
    have : hdN (gs ++ [new]) ((gs ++ [new]).getD k fd).name < k ↔ hdN gs (gs.getD k fd).name < k := by
      rw [hdN_before (by rw [hlen]; omega), hdN_before hk]
      constructor
      · rintro ⟨j, hj, e⟩
        rw [hat j (by omega), hat k hk] at e
        exact ⟨j, hj, e⟩
      · rintro ⟨j, hj, e⟩
        exact ⟨j, hj, by rw [hat j (by omega), hat k hk]; exact e⟩
    rw [hat k hk] at this ⊢
    by_cases c : hdN gs (gs.getD k fd).name < k
    · rw [if_pos (this.2 c), if_pos c]
    · rw [if_neg (fun x => c (this.1 x)), if_neg c]
  have hheadl : headF (gs ++ [new]) gs.length = [] := by
    unfold headF
    rw [if_neg]
    intro hlt
    obtain ⟨j, hj, e⟩ := (hdN_before (by rw [hlen]; omega)).1 hlt
    rw [hat j hj, hlast, getD_at hj] at e
    exact h1 _ (List.getElem_mem hj) e
  have hin : ∀ k, k < gs.length → inF (gs ++ [new]) k = inF gs k := fun k hk => by
    have hm : gs.getD k fd ∈ gs := by rw [getD_at hk]; exact List.getElem_mem hk
    unfold inF
    rw [hat k hk, bodF_cnt (gs' := gs) fun s hs => cntF_app new s (fun e => h2 _ hm (e ▸ hs)) gs]
  have hinl : inF (gs ++ [new]) gs.length = [] := by
    unfold inF bodF
    rw [hlast, hb, hpm]
    rfl
  rw [scP_tl, scP_tl, hlen, List.range_succ, List.flatMap_append, List.flatMap_append, List.flatMap_singleton, List.flatMap_singleton, hheadl, hinl, List.append_nil, List.append_nil, flatMap_congr' (f := headF (gs ++ [new])) (g := headF gs) fun k hk => hhead k (List.mem_range.1 hk), flatMap_congr' (f := inF (gs ++ [new])) (g := inF gs) fun k hk => hin k (List.mem_range.1 hk)]
end Go.Proofs.YtaneibojiamjeaaGreatDoor
/-
  Rows of definitions of the call's own.
-/
namespace Go.Proofs.YtaneibojiamjeaaGreatDoor
open Go.RowKit Go.Maps
set_option maxRecDepth 100000

theorem FsW.all {w : World} {A : Nat → Prop} : ∀ {gs : List Fn1} {cs : List Value}, FsW w A gs cs → cs.length = gs.length * 11 ∧ ∀ u ∈ cs, u.oneCell' = true
  | _, _, .nil => ⟨by simp, by simp⟩
  | _, _, .cons (vs := vs) (xs := xs) (cs := L) hx hl => by
    obtain ⟨h1, h2⟩ := hl.all
    have hv := hx.len
    refine ⟨by simp [h1, hv]; omega, fun u hu => ?_⟩
    rcases List.mem_append.1 hu with h | h
    · exact hx.one u h
    · exact h2 u h
theorem FsW.app {w : World} {A : Nat → Prop} {hs : List Fn1} {ds : List Value} (k : FsW w A hs ds) : ∀ {gs : List Fn1} {cs : List Value}, FsW w A gs cs → FsW w A (gs ++ hs) (cs ++ ds)
  | _, _, .nil => k
  | _, _, .cons hx hl => by
    rw [List.append_assoc]
    exact .cons hx (FsW.app k hl)

/-- A row of definitions of the call's own, their parts in blocks of which A holds. -/
def OwF (w : World) (B : Nat) (A : Nat → Prop) (v : Value) (gs : List Fn1) : Prop := ∃ cs, w.ownsRow B 45 11 v gs.length cs ∧ FsW w A gs cs
theorem OwF.nil (w : World) (B : Nat) (A : Nat → Prop) : OwF w B A (.slice none 0 0) [] := ⟨[], World.ownsRow_nil _ _ _ _, .nil⟩
theorem OwF.none_ (w : World) (A : Nat → Prop) : OwF (w.alloc (.cells #[] 45)) w.heap.size A (.slice (some ⟨w.heap.size, 0, none⟩) 0 0) [] :=
  ⟨[], ⟨rfl, .inr ⟨w.heap.size, 0, #[], rfl, Nat.le_refl _, Bk.new w 45 #[], Nat.le_refl _, by unfold maxLen; omega, rfl, rfl⟩⟩, .nil⟩
theorem OwF.up {w w' : World} {B : Nat} {A : Nat → Prop} {v : Value} {gs : List Fn1} (h : OwF w B A v gs) (hb : Below w.heap.size w w') : OwF w' B A v gs := by
  obtain ⟨cs, h1, h2⟩ := h
  exact ⟨cs, owns_keep h1 fun b hk => hb.block b (owns_has h1 b hk).2, h2.keep hb.size fun b _ hl => hb.block b hl⟩
theorem OwF.base {w : World} {B B' : Nat} {A : Nat → Prop} {v : Value} {gs : List Fn1} (h : OwF w B A v gs) (hb : B' ≤ B) : OwF w B' A v gs := by
  obtain ⟨cs, h1, h2⟩ := h
  refine ⟨cs, ⟨h1.1, ?_⟩, h2⟩
  rcases h1.2 with h' | ⟨g, cap, cur, e, k, r⟩
  · exact .inl h'
  · exact .inr ⟨g, cap, cur, e, Nat.le_trans hb k, r⟩
theorem OwF.flw {w : World} {B : Nat} {A : Nat → Prop} {v : Value} {gs : List Fn1} (h : OwF w B A v gs) : ∃ ao c, v = .slice ao gs.length c ∧ FlW w (fun b => A b ∨ B ≤ b) ao gs := by
  obtain ⟨cs, h1, h2⟩ := h
  rcases h1.2 with ⟨rfl, h0⟩ | ⟨g, cap, cur, rfl, hB, hg, hc1, hc2, hc3, hc4⟩
  · have e := List.length_eq_zero_iff.1 h0
    subst e
    exact ⟨none, 0, rfl, .inl rfl⟩
  · refine ⟨some ⟨g, 0, none⟩, cap, rfl, .inr ⟨g, cs, rfl, .inr hB, ?_, fun j u hj => ?_, h2.imp fun b hb _ => .inl hb⟩⟩
    · rcases Nat.lt_or_ge g w.heap.size with k | k
      · exact k
      · rw [Array.getElem?_eq_none k] at hg; cases hg
    · have hl := (List.getElem?_eq_some_iff.1 hj).1
      have hl2 := h2.all.1
      have h5 : (cur.toList.take (gs.length * 11))[j]? = some u := by rw [hc4]; exact hj
      rw [List.getElem?_take_of_lt (by omega)] at h5
      rw [Nat.zero_add]
      unfold World.cell?
      simp only [hg]
      simpa using h5
theorem Tryz.infoFn4 : (Tryz.prog.info? 45).map (fun i => (i.zero, i.size, i.bytes)) = some (some (.agg #[.string ⟨#[]⟩, .slice none 0 0, .int .i64 0, .int .i64 0, .string ⟨#[]⟩, .string ⟨#[]⟩, .int .i64 0, .complex .f64 0 0, .slice none 0 0, .int .i64 0, .int .i64 0]), 11, 152) := by kernel_rfl
theorem Tryz.underFn4 : Tryz.prog.underlying 24 = some (.slice 45) := by kernel_rfl
/-- Definitions appended to one's own. -/
theorem own_fns (w : World) (B : Nat) (A : Nat → Prop) (v : Value) (gs hs : List Fn1) (h : OwF w B A v gs) (hB : B ≤ w.heap.size) (hA : ∀ k, A k → k < B) (a : Addr) (cap : Nat) (L : List Value) (hL : FsW w A hs L) (hr : ∀ j u, L[j]? = some u → w.cell? (a.add j) = some u) (hn : gs.length + hs.length ≤ 131072) :
    ∃ v' w', (Builtin.append_ #[24, 24] 24 #[v, .slice (some a) hs.length cap]).run Tryz.prog w = .ok v' w' ∧ OwF w' B A v' (gs ++ hs) ∧ Below B w w' ∧ w.grownBy w' v.ownBlock := by
  obtain ⟨cs, h1, h2⟩ := h
  obtain ⟨l1, l2⟩ := hL.all
  obtain ⟨i0, hi, hz0, hz1, hz2⟩ := info_parts Tryz.infoFn4
  obtain ⟨v', w', hr', ho', hgr, _⟩ := run_append_own (P := Tryz.prog) w B 24 24 45 i0 _ 11 152 Tryz.underFn4 hi hz0 hz1 hz2 rfl (by decide) v gs.length cs h1 a hs.length cap L l1 hr l2 (by unfold maxLen; omega) (by omega) hB
  have hb : Below B w w' := (Below.refl B w).grown hgr hB (own_low h1)
  refine ⟨v', w', hr', ⟨cs ++ L, by rw [List.length_append]; exact ho', ?_⟩, hb, hgr⟩
  exact (FsW.app hL h2).keep hb.size fun b hb' _ => hb.block b (hA b hb')
theorem bk_gr {w w' : World} {e b : Nat} {t : TypeId} {vs : List Value} (h : w.grownBy w' (some e)) (hb : Bk w b t vs) (hne : b ≠ e) : Bk w' b t vs := by
  unfold Bk
  rw [h.block b hb.lt fun k => hne (Option.some.inj k)]
  exact hb
/-- One more. -/
theorem own_fn1 (w : World) (B : Nat) (A : Nat → Prop) (v : Value) (gs : List Fn1) (g : Fn1) (h : OwF w B A v gs) (hB : B ≤ w.heap.size) (hA : ∀ k, A k → k < B) (b : Nat) (vs : List Value) (hg : FnW w A g vs) (hk : Bk w b 45 vs) (hn : gs.length ≤ 131071) :
    ∃ v' w', (Builtin.append_ #[24, 24] 24 #[v, .slice (some ⟨b, 0, none⟩) 1 1]).run Tryz.prog w = .ok v' w' ∧ OwF w' B A v' (gs ++ [g]) ∧ Below B w w' ∧ w.grownBy w' v.ownBlock := by
  have hf : FsW w A [g] vs := by
    have := FsW.cons hg FsW.nil
    simpa using this
  exact own_fns w B A v gs [g] h hB hA ⟨b, 0, none⟩ 1 vs hf (fun j u hj => by rw [Addr.add_mid, hk.cell, Nat.zero_add]; exact hj) (by simp only [List.length_cons, List.length_nil]; omega)
/-- All of a program. -/
theorem own_fnall (w : World) (B : Nat) (A : Nat → Prop) (v : Value) (gs : List Fn1) (h : OwF w B A v []) (hB : B ≤ w.heap.size) (hA : ∀ k, A k → k < B) (ao : Option Addr) (cap : Nat) (hf : FlW w A ao gs) (hne : gs ≠ []) (hn : gs.length ≤ 131072) :
    ∃ v' w', (Builtin.append_ #[24, 24] 24 #[v, .slice ao gs.length cap]).run Tryz.prog w = .ok v' w' ∧ OwF w' B A v' gs ∧ Below B w w' ∧ w.grownBy w' v.ownBlock := by
  rcases hf with e | ⟨g0, L, rfl, _, hlt, hr0, hf⟩
  · exact absurd e hne
  · exact own_fns w B A v [] gs h hB hA ⟨g0, 0, none⟩ cap L hf (fun j u hj => by rw [Addr.add_mid]; exact hr0 j u hj) (by simpa using hn)
end Go.Proofs.YtaneibojiamjeaaGreatDoor
/-
  The walk of ScopeSound, from one definition more on.
-/
namespace Go.Proofs.YtaneibojiamjeaaGreatDoor
open Go.RowKit Go.Maps
set_option maxRecDepth 100000

/-- One definition more. -/
def newF (s : List UInt8) (n : Nat) : Fn1 := ⟨s, [], 2, .mk 2 [] [] 0 0 0 [] (n + 2), n + 1⟩
theorem newF_w {w : World} {A : Nat → Prop} (s : List UInt8) (n : Nat) : FnW w A (newF s n) [.string (bs s), .slice none 0 0, .int .i64 2, .int .i64 2, .string ⟨#[]⟩, .string ⟨#[]⟩, .int .i64 0, .complex .f64 0 0, .slice none 0 0, .int .i64 ((n : Int) + 2), .int .i64 ((n : Int) + 1)] := by
  refine ⟨none, 0, [.int .i64 2, .string ⟨#[]⟩, .string ⟨#[]⟩, .int .i64 0, .complex .f64 0 0, .slice none 0 0, .int .i64 ((n : Int) + 2)], ?_, .inl rfl, ?_⟩
  · simp [newF]
  · have h := ExW.mk (w := w) (A := A) (op := 2) (name := []) (tail := []) (ty := 0) (p := 0) (q := 0) (pos := n + 2) (xs := []) (c := 0) (ao := none) .nil
    rw [fl_zero] at h
    have e : ((n + 2 : Nat) : Int) = (n : Int) + 2 := by omega
    rw [e] at h
    exact h
theorem newF_ln {s : List UInt8} {n : Nat} (h : s.length ≤ 140737488355328) : lnF (newF s n) := by
  refine ⟨h, .inr (.inl rfl), fun x hx => (by cases hx), ?_⟩
  show wfE _ _ (.mk 2 [] [] 0 0 0 [] (n + 2))
  simp only [wfE, wfL]
  exact ⟨.word (.inl rfl), True.intro⟩
theorem newF_sn (s : List UInt8) (n : Nat) (env : List (List UInt8)) : snE env (newF s n).body = [] := by
  show snE env (.mk 2 [] [] 0 0 0 [] (n + 2)) = []
  rw [snE_mk, snL_nil]
  unfold snO
  rw [if_neg (by decide)]
  rfl
theorem newF_sz (s : List UInt8) (n : Nat) : szE (newF s n).body ≤ 65536 := by
  show szE (.mk 2 [] [] 0 0 0 [] (n + 2)) ≤ _
  rw [szE_mk, szL_nil]
  omega

set_option maxHeartbeats 16000000 in
theorem sound_d {x1 x2 x4 x5 x7 x8 x9 x10 x11 x12 x13 x14 x15 x17 x18 x19 x20 x21 x22 x23 x24 x25 x26 x27 x28 x29 x30 x31 x32 x33 x34 x35 x36 x37 x38 x39 x40 x41 x42 x43 x44 x45 x46 x47 x48 x49 x50 x51 x52 x53 x54 x55 x56 x57 x58 x59 x60 x61 x62 x63 x64 x65 x66 x67 x68 x69 x70 x71 x72 x73 x74 x75 x76 x77 x78 x79 x80 x81 x82 x83 x84 x85 x86 x87 x88 x89 x90 x91 x92 x93 x94 x95 x96 x97 x98 x99 x100 x101 x102 x103 x104 x105 x106 x107 x108 x109 x110 x111 x112 x113 x114 x115 x116 x117 x118 x119 x120 x121 x122 x123 x124 x125 x126 x127 x128 x129 x130 x131 x132 x133 x134 x135 x136 x137 x138 x139 x140 x141 x142 x143 x144 x145 x146 x147 x148 x149 x150 x151 x152 x153 x154 : Value} {ao0 a2 : Option Addr} {cap0 c2 cf bp bt gf : Nat} {l s : List UInt8} {gs : List Fn1} {vt : Value} (w0 W : World) (c : Code) (hc : Tryz.f7.body = some c) (hl : l.length ≤ 32768)
    (hB : Below w0.heap.size w0 W) (hbt : w0.heap.size ≤ bt) (hP : Bk W bp 26 [.slice a2 gs.length c2]) (hbp : bp < bt) (hT : Bk W bt 26 [vt]) (hF : FlW W (fun b => b < bt) a2 gs) (hG : W.cell? ⟨gf, 0, none⟩ = some (.string (bs s))) (hgf : gf ≠ bt)
    (hok : PrgOk gs) (hln : ∀ g ∈ gs, lnF g) (hs1 : ∀ g ∈ gs, g.name ≠ s) (hs2 : ∀ g ∈ gs, s ∉ adE g.body) (hsl : s.length ≤ 140737488355328) :
    Code.wp Tryz.prog (tl (tl (tl (tl (tl (tl (tl (tl (tl (tl (tl (tl (c))))))))))))) (bodyPost Tryz.prog Tryz.f7 (fun e w' => e = .returned (.bool true) ∧ Below w0.heap.size w0 w')) { tmps := #[.slice ao0 l.length cap0, x1, x2, .pointer (some ⟨bp, 0, none⟩), x4, x5, .pointer (some ⟨bt, 0, none⟩), x7, x8, x9, x10, x11, x12, x13, x14, x15, .slice (some ⟨gf, 0, none⟩) 1 cf, x17, x18, x19, x20, x21, x22, x23, x24, x25, x26, x27, x28, x29, x30, x31, x32, x33, x34, x35, x36, x37, x38, x39, x40, x41, x42, x43, x44, x45, x46, x47, x48, x49, x50, x51, x52, x53, x54, x55, x56, x57, x58, x59, x60, x61, x62, x63, x64, x65, x66, x67, x68, x69, x70, x71, x72, x73, x74, x75, x76, x77, x78, x79, x80, x81, x82, x83, x84, x85, x86, x87, x88, x89, x90, x91, x92, x93, x94, x95, x96, x97, x98, x99, x100, x101, x102, x103, x104, x105, x106, x107, x108, x109, x110, x111, x112, x113, x114, x115, x116, x117, x118, x119, x120, x121, x122, x123, x124, x125, x126, x127, x128, x129, x130, x131, x132, x133, x134, x135, x136, x137, x138, x139, x140, x141, x142, x143, x144, x145, x146, x147, x148, x149, x150, x151, x152, x153, x154], defers := [] } W := by
  obtain rfl := Option.some.inj (hc.symm.trans (rfl : Tryz.f7.body = some _))
  clear hc
  dsimp only [tl]
  have hZ := hT.lt
  have HSC : Hid (scP (gs ++ [newF s l.length]) = scP gs) := scP_more rfl (newF_sn s l.length) hs1 hs2
  have HOK : Hid (PrgOk gs) := hok
  have HLN : Hid (∀ g ∈ gs, lnF g) := hln
  have HNL : Hid (lnF (newF s l.length)) := newF_ln hsl
  clear hs1 hs2 hsl hok hln
  have hA : ∀ k, (fun b => b < bt) k → k < W.heap.size := fun k hk => Nat.lt_trans hk hZ
  have hgn : gs.length ≤ 32769 := HOK.out.num
  have hne := HOK.out.ne
  have hWd : Below W.heap.size W W.drew := (Below.refl _ _).drew
  -- the program's row appended, the new one laid behind it
  have bE1 : Below W.heap.size W (World.drew (W.alloc (.cells #[] 45))) := (below_alloc W (.cells #[] 45)).drew
  obtain ⟨va, wa, ra, oa, ea, _⟩ := own_fnall (World.drew (W.alloc (.cells #[] 45))) W.heap.size (fun b => b < bt) _ gs ((OwF.none_ W _).up ((Below.refl _ _).drew)) bE1.size (fun k hk => Nat.lt_trans hk hZ) a2 c2 (hF.up bE1) hne (by omega)
  have ba := bE1.trans ea
  have bN1 : Below W.heap.size W (wa.alloc (.cells #[.string (bs s), .slice none 0 0, .int .i64 2, .int .i64 2, .string ⟨#[]⟩, .string ⟨#[]⟩, .int .i64 0, .complex .f64 0 0, .slice none 0 0, .int .i64 ((l.length : Int) + 2), .int .i64 ((l.length : Int) + 1)] 45)) := ba.trans ((below_alloc wa (.cells #[.string (bs s), .slice none 0 0, .int .i64 2, .int .i64 2, .string ⟨#[]⟩, .string ⟨#[]⟩, .int .i64 0, .complex .f64 0 0, .slice none 0 0, .int .i64 ((l.length : Int) + 2), .int .i64 ((l.length : Int) + 1)] 45)).mono ba.size)
  obtain ⟨vb, wb, rb, ob, eb, _⟩ := own_fn1 (wa.alloc (.cells #[.string (bs s), .slice none 0 0, .int .i64 2, .int .i64 2, .string ⟨#[]⟩, .string ⟨#[]⟩, .int .i64 0, .complex .f64 0 0, .slice none 0 0, .int .i64 ((l.length : Int) + 2), .int .i64 ((l.length : Int) + 1)] 45)) W.heap.size (fun b => b < bt) va gs (newF s l.length) (oa.up (below_alloc wa (.cells #[.string (bs s), .slice none 0 0, .int .i64 2, .int .i64 2, .string ⟨#[]⟩, .string ⟨#[]⟩, .int .i64 0, .complex .f64 0 0, .slice none 0 0, .int .i64 ((l.length : Int) + 2), .int .i64 ((l.length : Int) + 1)] 45))) bN1.size (fun k hk => Nat.lt_trans hk hZ) wa.heap.size _ (newF_w s l.length) (Bk.new wa 45 #[.string (bs s), .slice none 0 0, .int .i64 2, .int .i64 2, .string ⟨#[]⟩, .string ⟨#[]⟩, .int .i64 0, .complex .f64 0 0, .slice none 0 0, .int .i64 ((l.length : Int) + 2), .int .i64 ((l.length : Int) + 1)]) (by omega)
  have bb := bN1.trans eb
  -- the new one laid ahead of it, behind the empty row
  have bE2 : Below W.heap.size W (World.drew ((W.alloc (.cells #[] 45)).alloc (.cells #[.string (bs s), .slice none 0 0, .int .i64 2, .int .i64 2, .string ⟨#[]⟩, .string ⟨#[]⟩, .int .i64 0, .complex .f64 0 0, .slice none 0 0, .int .i64 ((l.length : Int) + 2), .int .i64 ((l.length : Int) + 1)] 45))) := (Below.thn (below_alloc W (.cells #[] 45)) (below_alloc _ (.cells #[.string (bs s), .slice none 0 0, .int .i64 2, .int .i64 2, .string ⟨#[]⟩, .string ⟨#[]⟩, .int .i64 0, .complex .f64 0 0, .slice none 0 0, .int .i64 ((l.length : Int) + 2), .int .i64 ((l.length : Int) + 1)] 45))).drew
  have kE2 : Below (W.alloc (.cells #[] 45)).heap.size (W.alloc (.cells #[] 45)) (World.drew ((W.alloc (.cells #[] 45)).alloc (.cells #[.string (bs s), .slice none 0 0, .int .i64 2, .int .i64 2, .string ⟨#[]⟩, .string ⟨#[]⟩, .int .i64 0, .complex .f64 0 0, .slice none 0 0, .int .i64 ((l.length : Int) + 2), .int .i64 ((l.length : Int) + 1)] 45))) := (below_alloc _ (.cells #[.string (bs s), .slice none 0 0, .int .i64 2, .int .i64 2, .string ⟨#[]⟩, .string ⟨#[]⟩, .int .i64 0, .complex .f64 0 0, .slice none 0 0, .int .i64 ((l.length : Int) + 2), .int .i64 ((l.length : Int) + 1)] 45)).drew
  have hN2 : Bk (World.drew ((W.alloc (.cells #[] 45)).alloc (.cells #[.string (bs s), .slice none 0 0, .int .i64 2, .int .i64 2, .string ⟨#[]⟩, .string ⟨#[]⟩, .int .i64 0, .complex .f64 0 0, .slice none 0 0, .int .i64 ((l.length : Int) + 2), .int .i64 ((l.length : Int) + 1)] 45))) (W.heap.size + 1) 45 [.string (bs s), .slice none 0 0, .int .i64 2, .int .i64 2, .string ⟨#[]⟩, .string ⟨#[]⟩, .int .i64 0, .complex .f64 0 0, .slice none 0 0, .int .i64 ((l.length : Int) + 2), .int .i64 ((l.length : Int) + 1)] := (show Bk ((W.alloc (.cells #[] 45)).alloc (.cells #[.string (bs s), .slice none 0 0, .int .i64 2, .int .i64 2, .string ⟨#[]⟩, .string ⟨#[]⟩, .int .i64 0, .complex .f64 0 0, .slice none 0 0, .int .i64 ((l.length : Int) + 2), .int .i64 ((l.length : Int) + 1)] 45)) (W.heap.size + 1) 45 [.string (bs s), .slice none 0 0, .int .i64 2, .int .i64 2, .string ⟨#[]⟩, .string ⟨#[]⟩, .int .i64 0, .complex .f64 0 0, .slice none 0 0, .int .i64 ((l.length : Int) + 2), .int .i64 ((l.length : Int) + 1)] from Bk.newAt (w := W.alloc (.cells #[] 45)) (n := W.heap.size + 1) 45 #[.string (bs s), .slice none 0 0, .int .i64 2, .int .i64 2, .string ⟨#[]⟩, .string ⟨#[]⟩, .int .i64 0, .complex .f64 0 0, .slice none 0 0, .int .i64 ((l.length : Int) + 2), .int .i64 ((l.length : Int) + 1)] (by simp))
  obtain ⟨vc, wc, rc, oc, ec, gc⟩ := own_fnall (World.drew ((W.alloc (.cells #[] 45)).alloc (.cells #[.string (bs s), .slice none 0 0, .int .i64 2, .int .i64 2, .string ⟨#[]⟩, .string ⟨#[]⟩, .int .i64 0, .complex .f64 0 0, .slice none 0 0, .int .i64 ((l.length : Int) + 2), .int .i64 ((l.length : Int) + 1)] 45))) W.heap.size (fun b => b < bt) _ gs ((OwF.none_ W _).up kE2) bE2.size (fun k hk => Nat.lt_trans hk hZ) a2 c2 (hF.up bE2) hne (by omega)
  have bc := bE2.trans ec
  have kc := bk_gr gc hN2 (Nat.succ_ne_self _)
  obtain ⟨vd, wd, rd, od, ed, _⟩ := own_fn1 wc W.heap.size (fun b => b < bt) vc gs (newF s l.length) oc bc.size (fun k hk => Nat.lt_trans hk hZ) (W.heap.size + 1) _ (newF_w s l.length) kc (by omega)
  have bd := bc.trans ed
  -- the new one laid first
  have bE3 : Below W.heap.size W (World.drew ((W.alloc (.cells #[.string (bs s), .slice none 0 0, .int .i64 2, .int .i64 2, .string ⟨#[]⟩, .string ⟨#[]⟩, .int .i64 0, .complex .f64 0 0, .slice none 0 0, .int .i64 ((l.length : Int) + 2), .int .i64 ((l.length : Int) + 1)] 45)).alloc (.cells #[] 45))) := (Below.thn (below_alloc W (.cells #[.string (bs s), .slice none 0 0, .int .i64 2, .int .i64 2, .string ⟨#[]⟩, .string ⟨#[]⟩, .int .i64 0, .complex .f64 0 0, .slice none 0 0, .int .i64 ((l.length : Int) + 2), .int .i64 ((l.length : Int) + 1)] 45)) (below_alloc _ (.cells #[] 45))).drew
  have hN3 : Bk (World.drew ((W.alloc (.cells #[.string (bs s), .slice none 0 0, .int .i64 2, .int .i64 2, .string ⟨#[]⟩, .string ⟨#[]⟩, .int .i64 0, .complex .f64 0 0, .slice none 0 0, .int .i64 ((l.length : Int) + 2), .int .i64 ((l.length : Int) + 1)] 45)).alloc (.cells #[] 45))) W.heap.size 45 [.string (bs s), .slice none 0 0, .int .i64 2, .int .i64 2, .string ⟨#[]⟩, .string ⟨#[]⟩, .int .i64 0, .complex .f64 0 0, .slice none 0 0, .int .i64 ((l.length : Int) + 2), .int .i64 ((l.length : Int) + 1)] := (show Bk ((W.alloc (.cells #[.string (bs s), .slice none 0 0, .int .i64 2, .int .i64 2, .string ⟨#[]⟩, .string ⟨#[]⟩, .int .i64 0, .complex .f64 0 0, .slice none 0 0, .int .i64 ((l.length : Int) + 2), .int .i64 ((l.length : Int) + 1)] 45)).alloc (.cells #[] 45)) W.heap.size 45 [.string (bs s), .slice none 0 0, .int .i64 2, .int .i64 2, .string ⟨#[]⟩, .string ⟨#[]⟩, .int .i64 0, .complex .f64 0 0, .slice none 0 0, .int .i64 ((l.length : Int) + 2), .int .i64 ((l.length : Int) + 1)] from (Bk.new W 45 #[.string (bs s), .slice none 0 0, .int .i64 2, .int .i64 2, .string ⟨#[]⟩, .string ⟨#[]⟩, .int .i64 0, .complex .f64 0 0, .slice none 0 0, .int .i64 ((l.length : Int) + 2), .int .i64 ((l.length : Int) + 1)]).alloc _)
  have hE3 : OwF (World.drew ((W.alloc (.cells #[.string (bs s), .slice none 0 0, .int .i64 2, .int .i64 2, .string ⟨#[]⟩, .string ⟨#[]⟩, .int .i64 0, .complex .f64 0 0, .slice none 0 0, .int .i64 ((l.length : Int) + 2), .int .i64 ((l.length : Int) + 1)] 45)).alloc (.cells #[] 45))) W.heap.size (fun b => b < bt) (.slice (some ⟨W.heap.size + 1, 0, none⟩) 0 0) [] := by
    have h := ((OwF.none_ (W.alloc (.cells #[.string (bs s), .slice none 0 0, .int .i64 2, .int .i64 2, .string ⟨#[]⟩, .string ⟨#[]⟩, .int .i64 0, .complex .f64 0 0, .slice none 0 0, .int .i64 ((l.length : Int) + 2), .int .i64 ((l.length : Int) + 1)] 45)) (fun b => b < bt)).base (B' := W.heap.size) (by simp)).up ((Below.refl _ _).drew)
    rw [show (W.alloc (.cells #[.string (bs s), .slice none 0 0, .int .i64 2, .int .i64 2, .string ⟨#[]⟩, .string ⟨#[]⟩, .int .i64 0, .complex .f64 0 0, .slice none 0 0, .int .i64 ((l.length : Int) + 2), .int .i64 ((l.length : Int) + 1)] 45)).heap.size = W.heap.size + 1 by simp] at h
    exact h
  obtain ⟨ve, we, re, oe, ee, ge⟩ := own_fnall (World.drew ((W.alloc (.cells #[.string (bs s), .slice none 0 0, .int .i64 2, .int .i64 2, .string ⟨#[]⟩, .string ⟨#[]⟩, .int .i64 0, .complex .f64 0 0, .slice none 0 0, .int .i64 ((l.length : Int) + 2), .int .i64 ((l.length : Int) + 1)] 45)).alloc (.cells #[] 45))) W.heap.size (fun b => b < bt) _ gs hE3 bE3.size (fun k hk => Nat.lt_trans hk hZ) a2 c2 (hF.up bE3) hne (by omega)
  have be := bE3.trans ee
  have ke := bk_gr ge hN3 (Nat.succ_ne_self _).symm
  obtain ⟨vf, wf, rf, of, ef, _⟩ := own_fn1 we W.heap.size (fun b => b < bt) ve gs (newF s l.length) oe be.size (fun k hk => Nat.lt_trans hk hZ) W.heap.size _ (newF_w s l.length) ke (by omega)
  have bf := be.trans ef
  have el : (gs ++ [newF s l.length]).length = gs.length + 1 := by simp
  obtain ⟨ab, cb, eb1, _⟩ := ob.flw
  obtain ⟨ad, cd, ed1, _⟩ := od.flw
  obtain ⟨af, cf', ef1, _⟩ := of.flw
  rw [el] at eb1 ed1 ef1
  subst eb1
  subst ed1
  subst ef1
  clear el
  have Ra : Hid (_ = _) := ra
  have Rb : Hid (_ = _) := rb
  have Rc : Hid (_ = _) := rc
  have Rd : Hid (_ = _) := rd
  have Re : Hid (_ = _) := re
  have Rf : Hid (_ = _) := rf
  have Ob : Hid (OwF wb W.heap.size (fun b => b < bt) (.slice ab (gs.length + 1) cb) (gs ++ [newF s l.length])) := ob
  have Od : Hid (OwF wd W.heap.size (fun b => b < bt) (.slice ad (gs.length + 1) cd) (gs ++ [newF s l.length])) := od
  have Of : Hid (OwF wf W.heap.size (fun b => b < bt) (.slice af (gs.length + 1) cf') (gs ++ [newF s l.length])) := of
  have Tb : Hid (Bk wb bt 26 [vt]) := hT.up bb
  have Td : Hid (Bk wd bt 26 [vt]) := hT.up bd
  have Tf : Hid (Bk wf bt 26 [vt]) := hT.up bf
  have tb0 : wb.cell? ⟨bt, 0, none⟩ = some vt := Tb.out.cell 0
  have tb1 : wb.frozen? ⟨bt, 0, none⟩ = false := Tb.out.frz 0
  have td0 : wd.cell? ⟨bt, 0, none⟩ = some vt := Td.out.cell 0
  have td1 : wd.frozen? ⟨bt, 0, none⟩ = false := Td.out.frz 0
  have tf0 : wf.cell? ⟨bt, 0, none⟩ = some vt := Tf.out.cell 0
  have tf1 : wf.frozen? ⟨bt, 0, none⟩ = false := Tf.out.frz 0
  have hp0 : W.cell? ⟨bp, 0, none⟩ = some (.slice a2 gs.length c2) := hP.cell 0
  have HS : Hid (∀ X, Below W.heap.size W X → X.cell? ⟨bp, 0, none⟩ = some (.slice a2 gs.length c2) ∧ X.cell? ⟨gf, 0, none⟩ = some (.string (bs s))) := fun X hX => ⟨(hX.cell (cell_lt hp0)).trans hp0, (hX.cell (cell_lt hG)).trans hG⟩
  have HS2 : Hid (∀ X u, Below W.heap.size W X → (X.setCell ⟨bt, 0, none⟩ u).cell? ⟨bp, 0, none⟩ = some (.slice a2 gs.length c2) ∧ (X.setCell ⟨bt, 0, none⟩ u).cell? ⟨gf, 0, none⟩ = some (.string (bs s))) := fun X u hX => by
    have h := HS.out X hX
    have ho := (Oth.refl bt X).set 0 u
    exact ⟨(ho.cell (a := ⟨bp, 0, none⟩) (Nat.ne_of_lt hbp)).trans h.1, (ho.cell (a := ⟨gf, 0, none⟩) hgf).trans h.2⟩
  have s0 := HS.out W (Below.refl _ _)
  have HF : Hid (FlW W (fun b => b < bt) a2 gs) := hF
  have HP : Hid (Bk W bp 26 [.slice a2 gs.length c2]) := hP
  have HB : Hid (Below w0.heap.size w0 W ∧ w0.heap.size ≤ bt ∧ bp < bt) := ⟨hB, hbt, hbp⟩
  clear ra rb rc rd re rf oa ob oc od oe of ea eb ec ed ee ef gc ge kc ke hN2 hN3 hE3 kE2 hG hp0 hF hP hB hT hbt hbp hgf hgn hne hWd hA
  obtain ⟨n, hn⟩ : ∃ n, n = gs.length := ⟨_, rfl⟩
  have wl1 : IntKind.i64.wrap ((l.length : Int) + 2) = (l.length : Int) + 2 := by rw [IntKind.wrap_i64]; omega
  have wl2 : IntKind.i64.wrap ((l.length : Int) + 1) = (l.length : Int) + 1 := by rw [IntKind.wrap_i64]; omega
  have HN : Hid (n = gs.length) := hn
  clear hn
  go_upto_region 38 with fail
  go_cut [] (fun wx => ∃ X vx, Below W.heap.size W X ∧ wx = X.setCell ⟨bt, 0, none⟩ vx ∧ Bk X bt 26 [vt] ∧ OwF X W.heap.size (fun b => b < bt) vx (gs ++ [newF s l.length]))
  case first =>
    go_region_held3 (fun X => X.cell? ⟨bp, 0, none⟩ = some (.slice a2 gs.length c2) ∧ X.cell? ⟨gf, 0, none⟩ = some (.string (bs s)))
      ((first | (refine HS2.out _ _ ?_; with_reducible assumption) | (refine HS.out _ ?_; repeat (first | (with_reducible assumption) | refine Below.refl _ _ | refine Below.drew ?_ | refine Below.thn ?_ (below_alloc _ _) | refine Below.trans ?_ ((below_alloc _ _).mono (by first | exact ba.size | exact bc.size)))))) (first
      | (refine step_append_runU (by rfl) (.tmp 132) (.tmp 134) 24 24 (by rfl) (by rfl) (.slice (some ⟨W.heap.size, 0, none⟩) 0 0) (.slice a2 gs.length c2) (by rfl) (by rfl) (va) wa (show _ = _ from Ra) ?_)
      | (refine step_append_runU (by rfl) (.tmp 132) (.tmp 134) 24 24 (by rfl) (by rfl) (.slice (some ⟨W.heap.size, 0, none⟩) 0 0) (.slice a2 gs.length c2) (by rfl) (by rfl) (vc) wc (show _ = _ from Rc) ?_)
      | (refine step_append_runU (by rfl) (.tmp 132) (.tmp 134) 24 24 (by rfl) (by rfl) (.slice (some ⟨W.heap.size + 1, 0, none⟩) 0 0) (.slice a2 gs.length c2) (by rfl) (by rfl) (ve) we (show _ = _ from Re) ?_)
      | (refine step_append_runU (by rfl) (.tmp 135) (.tmp 147) 24 24 (by rfl) (by rfl) (va) (.slice (some ⟨wa.heap.size, 0, none⟩) 1 1) (by rfl) (by rfl) (.slice ab (gs.length + 1) cb) wb (show _ = _ from Rb) ?_)
      | (refine step_append_runU (by rfl) (.tmp 135) (.tmp 147) 24 24 (by rfl) (by rfl) (vc) (.slice (some ⟨W.heap.size + 1, 0, none⟩) 1 1) (by rfl) (by rfl) (.slice ad (gs.length + 1) cd) wd (show _ = _ from Rd) ?_)
      | (refine step_append_runU (by rfl) (.tmp 135) (.tmp 147) 24 24 (by rfl) (by rfl) (ve) (.slice (some ⟨W.heap.size, 0, none⟩) 1 1) (by rfl) (by rfl) (.slice af (gs.length + 1) cf') wf (show _ = _ from Rf) ?_)
      | fail)
    all_goals
      go_wp2_with fail
      go_meet
      case rel =>
        first
          | exact ⟨wb, _, bb, rfl, Tb.out, Ob.out⟩
          | exact ⟨wd, _, bd, rfl, Td.out, Od.out⟩
          | exact ⟨wf, _, bf, rfl, Tf.out, Of.out⟩
  case rest =>
    obtain ⟨X, vx, hX, hwc, hT, hO⟩ := hcut
    have ho := (Oth.refl bt X).set 0 vx
    have hTy := hT.set 0 vx
    have hPX := HP.out.up hX
    have hfX := HF.out.up hX
    have hBX : Below w0.heap.size w0 (X.setCell ⟨bt, 0, none⟩ vx) := Below.setCell (Below.thn HB.out.1 hX) HB.out.2.1 _
    have hPy := hPX.oth ho (Nat.ne_of_lt HB.out.2.2)
    have hfy : FlW (X.setCell ⟨bt, 0, none⟩ vx) (fun b => b < bt) a2 gs := hfX.keep (by rw [ho.size]; exact Nat.le_refl _) fun b hb _ => ho.block b (Nat.ne_of_lt hb)
    have hOy : OwF (X.setCell ⟨bt, 0, none⟩ vx) W.heap.size (fun b => b < bt) vx (gs ++ [newF s l.length]) := by
      obtain ⟨cs, h1, h2⟩ := hO
      refine ⟨cs, owns_keep h1 fun b hk => ho.block b ?_, h2.keep (by rw [ho.size]; exact Nat.le_refl _) fun b hb _ => ho.block b (Nat.ne_of_lt hb)⟩
      have := own_low h1 b hk
      omega
    rw [← hwc] at hTy hBX hPy hfy hOy
    clear hwc ho hPX hfX hX hT hO HS HS2 HP HF s0 tb0 tb1 td0 td1 tf0 tf1 Tb Td Tf Ob Od Of Ra Rb Rc Rd Re Rf
    obtain ⟨ax, cx_, ex, hfx⟩ := hOy.flw
    subst ex
    have HC1 : Hid (∀ Y, Below wc.heap.size wc Y → Calls Tryz.prog 11 #[.agg #[.slice ax (gs ++ [newF s l.length]).length cx_]] Y fun e w' => e = .returned (.agg #[.int .i64 (scP gs).1, .int .i64 (scP gs).2]) ∧ Below Y.heap.size Y w') := fun Y hY => by
      have h := scopeCheck_any (c := cx_) ((hfx.up hY).imp (A' := fun b => b < Y.heap.size) fun b _ hl => hl) (fun _ h => h) (fun g hg => by
        rcases List.mem_append.1 hg with h | h
        · exact HLN.out g h
        · rw [List.mem_singleton.1 h]; exact HNL.out) (fun g hg => by
        rcases List.mem_append.1 hg with h | h
        · have := HOK.out.sz g h; omega
        · rw [List.mem_singleton.1 h]; exact newF_sz _ _) (fun g hg => by
        rcases List.mem_append.1 hg with h | h
        · have := HOK.out.pms g h; omega
        · rw [List.mem_singleton.1 h]; exact Nat.zero_le _) (by have := HOK.out.num; rw [List.length_append]; simp only [List.length_cons, List.length_nil]; omega)
      rw [HSC.out] at h
      exact h
    have HC2 : Hid (∀ Y, Below wc.heap.size wc Y → Calls Tryz.prog 11 #[.agg #[.slice a2 gs.length c2]] Y fun e w' => e = .returned (.agg #[.int .i64 (scP gs).1, .int .i64 (scP gs).2]) ∧ Below Y.heap.size Y w') := fun Y hY =>
      scopeCheck_any ((hfy.up hY).imp (A' := fun b => b < Y.heap.size) fun b _ hl => hl) (fun _ h => h) HLN.out (fun g hg => by have := HOK.out.sz g hg; omega) (fun g hg => by have := HOK.out.pms g hg; omega) (by have := HOK.out.num; omega)
    have p0 : wc.cell? ⟨bp, 0, none⟩ = some (.slice a2 gs.length c2) := hPy.cell 0
    have p1 : wc.cell? ⟨bt, 0, none⟩ = some (.slice ax (gs ++ [newF s l.length]).length cx_) := hTy.cell 0
    obtain ⟨m, hm⟩ : ∃ m, m = (gs ++ [newF s l.length]).length := ⟨_, rfl⟩
    obtain ⟨n', hn'⟩ : ∃ n', n' = gs.length := ⟨_, rfl⟩
    rw [← hm] at HC1 p1
    rw [← hn'] at HC2 p0
    have HS : Hid (∀ Y, Below wc.heap.size wc Y → Y.cell? ⟨bp, 0, none⟩ = some (.slice a2 n' c2) ∧ Y.cell? ⟨bt, 0, none⟩ = some (.slice ax m cx_)) := fun Y hY => ⟨(hY.cell (cell_lt p0)).trans p0, (hY.cell (cell_lt p1)).trans p1⟩
    have s1 := HS.out wc (Below.refl _ _)
    have HB9 : Hid (Below w0.heap.size w0 wc) := hBX
    generalize (scP gs).1 = y at *
    generalize (scP gs).2 = z at *
    clear hm hn' hfx hfy hOy hTy hPy hBX p0 p1 HSC HOK HLN HNL HB
    go_upto_region 39 with fail
    go_cut [2] (fun b wx => b = .bool true ∧ Below wc.heap.size wc wx)
    case first =>
      go_region_held3 (fun Y => Y.cell? ⟨bp, 0, none⟩ = some (.slice a2 n' c2) ∧ Y.cell? ⟨bt, 0, none⟩ = some (.slice ax m cx_))
        ((refine HS.out _ ?_; repeat (first | (with_reducible assumption) | refine Below.refl _ _ | refine Below.drew ?_))) (first
        | (have q9 := h1; go_at_call 11; (with_reducible refine Calls.mono (HC1.out _ (by first | (with_reducible assumption) | exact (Below.refl _ _).drew)) ?_); rintro e wn ⟨rfl, hbn⟩; have h3 := Below.thn h1 hbn)
        | (have q9 := h1; go_at_call 11; (with_reducible refine Calls.mono (HC2.out _ (by first | (with_reducible assumption) | exact (Below.refl _ _).drew)) ?_); rintro e wn ⟨rfl, hbn⟩; have h3 := Below.thn h1 hbn)
        | (go_at_call 11; (with_reducible refine Calls.mono (HC1.out _ (Below.refl _ _).drew) ?_); rintro e wm ⟨rfl, hbm⟩; have h1 := Below.thn ((Below.refl wc.heap.size wc).drew) hbm)
        | (go_at_call 11; (with_reducible refine Calls.mono (HC2.out _ (Below.refl _ _).drew) ?_); rintro e wm ⟨rfl, hbm⟩; have h1 := Below.thn ((Below.refl wc.heap.size wc).drew) hbm)
        | fail)
      all_goals
        go_wp2_with fail
        go_meet
        case rel => exact ⟨rfl, h3⟩
    case rest =>
      obtain ⟨rfl, hbc⟩ := hcut
      go_wp2_with fail
      go_ret
      exact ⟨rfl, Below.thn HB9.out hbc⟩
end Go.Proofs.YtaneibojiamjeaaGreatDoor
/-
  The walk of ScopeSound, from the names of all definitions on.
-/
namespace Go.Proofs.YtaneibojiamjeaaGreatDoor
open Go.RowKit Go.Maps
set_option maxRecDepth 100000

theorem onE_ln {op : Int} {name tail : List UInt8} {ty p q : Int} {n : Nat} (h : Shp (fun s => s.length ≤ 140737488355328) (fun _ _ => True) op name tail ty p q n) : ∀ s ∈ onE op name tail, s.length ≤ 140737488355328 := by
  intro s hs
  unfold onE at hs
  cases h with
  | num h => simp at hs
  | word h => rcases h with rfl | rfl | rfl <;> simp at hs
  | fail h => simp at hs
  | var h => simp at hs; rw [hs]; exact h
  | call h => simp at hs; rw [hs]; exact h
  | one h => rcases h with rfl | rfl | rfl | rfl <;> simp at hs
  | two h => rcases h with rfl | rfl | rfl | rfl | rfl | rfl | rfl <;> simp at hs
  | cond => simp at hs
  | bind h1 h2 h3 => rcases h1 with rfl | rfl <;> (simp at hs; rw [hs]; exact h2)
  | look h1 h2 =>
    simp at hs
    rcases hs with hs | hs <;> (rw [hs]; assumption)
mutual
theorem ad_ln : ∀ x : Ex, lnE x → ∀ s ∈ adE x, s.length ≤ 140737488355328
  | .mk op name tail ty p q xs i, h, s, hs => by
    unfold lnE at h
    rw [wfE] at h
    rw [adE_mk, List.mem_append] at hs
    rcases hs with hs | hs
    · exact onE_ln h.1 s hs
    · exact ad_lnL xs h.2 s hs
theorem ad_lnL : ∀ xs : List Ex, wfL (fun s => s.length ≤ 140737488355328) (fun _ _ => True) xs → ∀ s ∈ adL xs, s.length ≤ 140737488355328
  | [], _, s, hs => by rw [adL_nil] at hs; cases hs
  | x :: xs, h, s, hs => by
    rw [wfL] at h
    rw [adL_cons, List.mem_append] at hs
    rcases hs with hs | hs
    · exact ad_ln x h.1 s hs
    · exact ad_lnL xs h.2 s hs
end
theorem nm_ln {g : Fn1} (h : lnF g) : ∀ s ∈ nmA g, s.length ≤ 140737488355328 := by
  intro s hs
  unfold nmA nmsP at hs
  rw [List.mem_append, List.mem_append] at hs
  rcases hs with (hs | hs) | hs
  · rw [List.mem_singleton.1 hs]; exact h.name
  · obtain ⟨p, hp, rfl⟩ := List.mem_map.1 hs
    exact (h.pms p hp).1
  · exact ad_ln g.body h.body s hs
theorem nm_len (g : Fn1) : (nmA g).length ≤ 1 + g.pms.length + 2 * szE g.body := by
  have := adE_len g.body
  unfold nmA nmsP
  rw [List.length_append, List.length_append, List.length_map, List.length_singleton]
  omega
/-- How many names are looked at before some are found. -/
theorem frN_few (t : List (List UInt8)) : ∀ j, ∃ L : List (List UInt8), L.Nodup ∧ (∀ x ∈ L, x ∈ t ∧ ∃ i, i < j ∧ x = tN (i + 1)) ∧ L.length + (frN t j).length = j
  | 0 => ⟨[], List.nodup_nil, fun x hx => (by cases hx), by simp [frN]⟩
  | j + 1 => by
    obtain ⟨L, h1, h2, h3⟩ := frN_few t j
    by_cases e : tN (j + 1) ∈ t
    · refine ⟨tN (j + 1) :: L, List.nodup_cons.2 ⟨fun hm => ?_, h1⟩, fun x hx => ?_, ?_⟩
      · obtain ⟨_, i, hi, hx⟩ := h2 _ hm
        have := tN_inj hx
        omega
      · rcases List.mem_cons.1 hx with rfl | hx
        · exact ⟨e, j, by omega, rfl⟩
        · obtain ⟨a, i, hi, b⟩ := h2 x hx
          exact ⟨a, i, by omega, b⟩
      · rw [frN_yes e, List.length_cons]; omega
    · refine ⟨L, h1, fun x hx => ?_, ?_⟩
      · obtain ⟨a, i, hi, b⟩ := h2 x hx
        exact ⟨a, i, by omega, b⟩
      · rw [frN_no e, List.length_append, List.length_singleton]; omega
theorem frN_one1 {t : List (List UInt8)} {j : Nat} (h : (frN t j).length = 1) (ht : t.length ≤ 8796093022208) : ∃ s, frN t j = [s] ∧ s ∉ t ∧ s.length ≤ 140737488355328 := by
  obtain ⟨s, hs⟩ := List.length_eq_one_iff.1 h
  have hm : s ∈ frN t j := by rw [hs]; exact List.mem_singleton.2 rfl
  obtain ⟨h1, i, h2, h3⟩ := frN_mem hm
  obtain ⟨L, l1, l2, l3⟩ := frN_few t j
  have := nodup_le L t l1 fun x hx => (l2 x hx).1
  refine ⟨s, hs, h1, ?_⟩
  rw [h3]
  unfold tN
  have := Lib.itoa_length_le ((i + 1 : Nat) : Int) (by omega) (by omega)
  rw [List.length_cons]
  omega

set_option maxHeartbeats 16000000 in
theorem sound_c {x1 x2 x4 x5 x8 x9 x10 x11 x12 x13 x14 x15 x16 x17 x18 x19 x20 x21 x22 x23 x24 x25 x26 x27 x28 x29 x30 x31 x32 x33 x34 x35 x36 x37 x38 x39 x40 x41 x42 x43 x44 x45 x46 x47 x48 x49 x50 x51 x52 x53 x54 x55 x56 x57 x58 x59 x60 x61 x62 x63 x64 x65 x66 x67 x68 x69 x70 x71 x72 x73 x74 x75 x76 x77 x78 x79 x80 x81 x82 x83 x84 x85 x86 x87 x88 x89 x90 x91 x92 x93 x94 x95 x96 x97 x98 x99 x100 x101 x102 x103 x104 x105 x106 x107 x108 x109 x110 x111 x112 x113 x114 x115 x116 x117 x118 x119 x120 x121 x122 x123 x124 x125 x126 x127 x128 x129 x130 x131 x132 x133 x134 x135 x136 x137 x138 x139 x140 x141 x142 x143 x144 x145 x146 x147 x148 x149 x150 x151 x152 x153 x154 : Value} {ao0 a2 : Option Addr} {cap0 c2 bp bt : Nat} {l : List UInt8} {ns : List (List UInt8)} {gs : List Fn1} {vt v7 : Value} (w0 W : World) (c : Code) (hc : Tryz.f7.body = some c) (hl : l.length ≤ 32768) (ht : Tab w0)
    (hB : Below w0.heap.size w0 W) (hbt : w0.heap.size ≤ bt) (hP : Bk W bp 26 [.slice a2 gs.length c2]) (hbp : bp < bt) (hT : Bk W bt 26 [vt]) (hF : FlW W (fun b => b < bt) a2 gs)
    (hok : PrgOk gs) (hln : ∀ g ∈ gs, lnF g) (hO : OwN W (bt + 1) v7 ns) (hnl : ns.length ≤ 32769) (hnn : ∀ s ∈ ns, s.length ≤ 140737488355328) :
    Code.wp Tryz.prog (tl (tl (tl (tl (tl (tl (tl (tl (tl (c)))))))))) (bodyPost Tryz.prog Tryz.f7 (fun e w' => e = .returned (.bool true) ∧ Below w0.heap.size w0 w')) { tmps := #[.slice ao0 l.length cap0, x1, x2, .pointer (some ⟨bp, 0, none⟩), x4, x5, .pointer (some ⟨bt, 0, none⟩), v7, x8, x9, x10, x11, x12, x13, x14, x15, x16, x17, x18, x19, x20, x21, x22, x23, x24, x25, x26, x27, x28, x29, x30, x31, x32, x33, x34, x35, x36, x37, x38, x39, x40, x41, x42, x43, x44, x45, x46, x47, x48, x49, x50, x51, x52, x53, x54, x55, x56, x57, x58, x59, x60, x61, x62, x63, x64, x65, x66, x67, x68, x69, x70, x71, x72, x73, x74, x75, x76, x77, x78, x79, x80, x81, x82, x83, x84, x85, x86, x87, x88, x89, x90, x91, x92, x93, x94, x95, x96, x97, x98, x99, x100, x101, x102, x103, x104, x105, x106, x107, x108, x109, x110, x111, x112, x113, x114, x115, x116, x117, x118, x119, x120, x121, x122, x123, x124, x125, x126, x127, x128, x129, x130, x131, x132, x133, x134, x135, x136, x137, x138, x139, x140, x141, x142, x143, x144, x145, x146, x147, x148, x149, x150, x151, x152, x153, x154], defers := [] } W := by
  obtain ⟨c', hc'⟩ : ∃ c', Tryz.f7.body = some c' := ⟨c, hc⟩
  obtain rfl := Option.some.inj (hc.symm.trans (rfl : Tryz.f7.body = some _))
  clear hc
  dsimp only [tl]
  have HOK : Hid (PrgOk gs) := hok
  have HLN : Hid (∀ g ∈ gs, lnF g) := hln
  have HP : Hid (Bk W bp 26 [.slice a2 gs.length c2]) := hP
  have HT : Hid (Bk W bt 26 [vt]) := hT
  have HF : Hid (FlW W (fun b => b < bt) a2 gs) := hF
  have HB : Hid (Below w0.heap.size w0 W ∧ w0.heap.size ≤ bt ∧ bp < bt ∧ l.length ≤ 32768 ∧ bt < W.heap.size ∧ Tab w0) := ⟨hB, hbt, hbp, hl, hT.lt, ht⟩
  have HO : Hid (OwN W (bt + 1) v7 ns ∧ (∀ j, j < 0 → ∀ x ∈ nmA (gs.getD j fd), x ∈ ns) ∧ ns.length ≤ 32769 + 0 * 98308 ∧ ∀ s ∈ ns, s.length ≤ 140737488355328) := ⟨hO, fun j hj => absurd hj (Nat.not_lt_zero _), by omega, hnn⟩
  obtain ⟨n, hn⟩ : ∃ n, n = gs.length := ⟨_, rfl⟩
  have HN : Hid (n = gs.length) := hn
  have hnm : n ≤ 32769 := by rw [hn]; exact hok.num
  clear hok hln hP hT hF hB hbt hbp hl ht hO hnl hnn hn
  go_wp2_with fail
  go_loopw [7, 14] (fun v i wr => ∃ (k : Nat) (zs : List (List UInt8)), k ≤ n ∧ i = .int .i64 k ∧ Below (bt + 1) W wr ∧ Hid (OwN wr (bt + 1) v zs ∧ (∀ j, j < k → ∀ x ∈ nmA (gs.getD j fd), x ∈ zs) ∧ zs.length ≤ 32769 + k * 98308 ∧ ∀ s ∈ zs, s.length ≤ 140737488355328)) (fun _ i _ => n - (intOf i).toNat)
  case atStart => exact ⟨0, ns, Nat.zero_le _, rfl, Below.refl _ _, HO⟩
  case round =>
    obtain ⟨k, zs, hkn, rfl, hBr, hZ⟩ := hrel
    have hPr : Bk wr bp 26 [.slice a2 gs.length c2] := by
      unfold Bk
      rw [hBr.block bp (by have := HB.out.2.2.1; omega)]
      exact HP.out
    have hFr : FlW wr (fun b => b < bt) a2 gs := HF.out.keep hBr.size fun b hb _ => hBr.block b (by omega)
    have p0 : wr.cell? ⟨bp, 0, none⟩ = some (.slice a2 gs.length c2) := hPr.cell 0
    rw [← HN.out] at p0
    by_cases hlt : k < n
    · have hk : k < gs.length := by rw [← HN.out]; exact hlt
      have hmem : gs.getD k fd ∈ gs := by rw [List.getD_eq_getElem?_getD, List.getElem?_eq_getElem hk]; exact List.getElem_mem hk
      have hsz : szE (gs.getD k fd).body ≤ 32769 := HOK.out.sz _ hmem
      have hps : (gs.getD k fd).pms.length ≤ 32769 := HOK.out.pms _ hmem
      have hlg := HLN.out _ hmem
      obtain ⟨G, vs, rfl, hAG, hv, hxv⟩ := hFr.at k hk
      obtain ⟨g, hg⟩ : ∃ g, g = gs.getD k fd := ⟨_, rfl⟩
      have HG : Hid (g = gs.getD k fd) := hg
      rw [← hg] at hsz hps hlg hxv
      clear hg hmem hk
      obtain ⟨ap, cp, es, hvs, hp1, hx1⟩ := id hxv
      obtain ⟨q0, q1, q2, q3, q4, q5, q6, rfl⟩ := list7 hx1.len
      simp only [List.cons_append, List.nil_append] at hvs
      subst hvs
      clear hp1 hx1
      have m := names6_any hxv (fun j hj => by have := HB.out.2.2.2.2.1; have := hBr.size; have : j < bt := hj; omega) hlg (by omega) (by omega)
      have HM : Hid ((nmA g).length ≤ 98308 ∧ ∀ s ∈ nmA g, s.length ≤ 140737488355328) := ⟨by have := nm_len g; omega, nm_ln hlg⟩
      clear hsz hps hlg hxv hFr hPr
      go_upto_region 34 with (first
        | refine wpList_loadN rfl 45 (.tmp 114) rfl G (k * 11) rfl [.string (bs g.name), .slice ap g.pms.length cp, .int .i64 g.ty, q0, q1, q2, q3, q4, q5, q6, .int .i64 g.pos] _ hv Tryz.underFn Tryz.infoFn ?_
        | (go_at_call 14; refine m.mono ?_; rintro e w6 ⟨⟨v6, o6, rfl, hI6, hO6⟩, hb6⟩))
      obtain ⟨a6, c6, e6, N6, z6, _⟩ := hO6.names
      subst e6
      have ho6 : o6.length ≤ 98308 := Nat.le_trans (srt_len hI6) HM.out.1
      obtain ⟨v9, w9, R9, hO9, hb9⟩ := own_names w6 (bt + 1) _ zs (hZ.out.1.upp hb6) (by have := HB.out.2.2.2.2.1; have := hBr.size; have := hb6.size; omega) a6 c6 o6 N6 z6 (fun e => by subst e; exact N6.none) (by have := hZ.out.2.2.1; omega)
      have HZ9 : Hid (OwN w9 (bt + 1) v9 (zs ++ o6) ∧ (∀ j, j < k + 1 → ∀ x ∈ nmA (gs.getD j fd), x ∈ zs ++ o6) ∧ (zs ++ o6).length ≤ 32769 + (k + 1) * 98308 ∧ ∀ s ∈ zs ++ o6, s.length ≤ 140737488355328) := by
        refine ⟨hO9, fun j hj x hx => ?_, ?_, fun s hs => ?_⟩
        · rcases Nat.lt_or_ge j k with q | q
          · exact List.mem_append_left _ (hZ.out.2.1 j q x hx)
          · have : j = k := by omega
            rw [this, ← HG.out] at hx
            exact List.mem_append_right _ ((hI6.2 x).2 hx)
        · have := hZ.out.2.2.1
          rw [List.length_append]
          omega
        · rcases List.mem_append.1 hs with q | q
          · exact hZ.out.2.2.2 s q
          · exact HM.out.2 s ((hI6.2 s).1 q)
      have hB9 : Below (bt + 1) W w9 := (hBr.trans (hb6.mono (by have := HB.out.2.2.2.2.1; have := hBr.size; omega))).trans hb9
      clear hO9 hb9 hb6 hO6 hI6 N6 z6 hv m p0
      go_upto_region 32 with (at_builtin; refine wpList_append_run rfl (.tmp 117) (.tmp 118) 35 rfl rfl _ _ rfl rfl _ _ (show _ = _ from R9) ?_)
      go_wp2_with fail
      go_roundw
      case rel => exact ⟨k + 1, zs ++ o6, by omega, by go_num, hB9, HZ9⟩
      case measure => simp [intOf]; omega
    · have hke : k = n := by omega
      obtain ⟨a7, c7, e7, N7, z7, _⟩ := hZ.out.1.names
      have hlow : ∀ g off, a7 = some ⟨g, off, none⟩ → g < wr.heap.size := fun g off e => hZ.out.1.lt g off c7 zs.length (by rw [e7, e])
      subst e7
      have hzl : zs.length ≤ 8796093022208 := by have := hZ.out.2.2.1; omega
      have hf := fresh6_any (cap := c7) zs N7 hlow (fun s hs => by have := hZ.out.2.2.2 s hs; unfold maxLen; omega) hzl (tab_keep HB.out.2.2.2.2.2 (HB.out.1.trans (hBr.mono (by have := HB.out.2.1; omega)))) 1 (by decide)
      have HZ : Hid ((∀ j, j < n → ∀ x ∈ nmA (gs.getD j fd), x ∈ zs) ∧ zs.length ≤ 8796093022208) := ⟨by rw [← hke]; exact hZ.out.2.1, hzl⟩
      obtain ⟨m7, hm7⟩ : ∃ m, m = zs.length := ⟨_, rfl⟩
      rw [← hm7] at hf ⊢
      clear hm7 hzl N7 hlow z7 hZ
      subst hke
      go_wp2_with fail
      refine hf.mono ?_
      rintro e w7 ⟨⟨va, ja, rfl, hja, hOa⟩, hba⟩
      obtain ⟨s, hs, hsn, hsl⟩ := frN_one1 hja HZ.out.2
      rw [hs] at hOa
      obtain ⟨aa, ca, ea, Na, _, hlo⟩ := hOa.names
      obtain ⟨gf, off, eg, hcl⟩ := Na 0 s rfl
      have hgf0 := hlo _ _ eg
      subst ea
      subst eg
      have hoff : off = 0 := by
        rcases hOa.2 with ⟨e, _⟩ | ⟨g, cap, cur, e, _⟩
        · cases e
        · cases e
          rfl
      subst hoff
      have hW1 := HB.out.2.2.2.2.1
      have hW2 := hBr.size
      have hT7 : Bk w7 bt 26 [vt] := by
        unfold Bk
        rw [hba.block bt (by omega), hBr.block bt (by omega)]
        exact HT.out
      have hP7 := hPr.up hba
      have hF7 := hFr.up hba
      have hB7 : Below w0.heap.size w0 w7 := HB.out.1.trans ((hBr.mono (by have := HB.out.2.1; omega)).trans (hba.mono (by have := HB.out.2.1; omega)))
      have hgn : gf ≠ bt := by omega
      have hs1 : ∀ g ∈ gs, s ∉ nmA g := fun g hg hm => by
        obtain ⟨j, hj, rfl⟩ := List.mem_iff_getElem.1 hg
        refine hsn (HZ.out.1 j (by rw [HN.out]; exact hj) s ?_)
        rw [List.getD_eq_getElem?_getD, List.getElem?_eq_getElem hj]
        exact hm
      have HC7 : Hid (w7.cell? ⟨gf, 0, none⟩ = some (.string (bs s))) := (show _ = _ by simpa using hcl)
      have HQ : Hid (gf ≠ bt ∧ Below w0.heap.size w0 w7 ∧ Bk w7 bp 26 [.slice a2 gs.length c2] ∧ Bk w7 bt 26 [vt] ∧ FlW w7 (fun b => b < bt) a2 gs ∧ (∀ g ∈ gs, s ∉ nmA g) ∧ s.length ≤ 140737488355328) := ⟨hgn, hB7, hP7, hT7, hF7, hs1, hsl⟩
      clear hgn hB7 hP7 hT7 hF7 hs1 hsl hsn hcl hOa Na hba hf hPr hFr p0 hja hs hlo hgf0 hBr hW1 hW2
      simp only [List.length_cons, List.length_nil, Nat.zero_add]
      go_upto_region 36 with fail
      go_cut [131] (fun b wx => b = .bool false ∧ Hid (wx = w7))
      case first =>
        go_wp2_with fail
        go_meet
        case rel => exact ⟨rfl, rfl⟩
      case rest =>
        rename_i K1 h1 K0 h0
        obtain ⟨rfl, hw⟩ := hcut
        have hw := hw.out
        subst hw
        refine h0 _ _ (wp_cond_false rfl (wp_skip ?_))
        simp only [Exit.then]
        refine h1 _ _ ?_
        have hs1 := HQ.out.2.2.2.2.2.1
        exact sound_d (s := s) w0 wc _ rfl HB.out.2.2.2.1 HQ.out.2.1 HB.out.2.1 HQ.out.2.2.1 HB.out.2.2.1 HQ.out.2.2.2.1 HQ.out.2.2.2.2.1 HC7.out HQ.out.1 HOK.out HLN.out (fun g hg e => hs1 g hg (by rw [← e]; unfold nmA; exact List.mem_append_left _ (List.mem_append_left _ (List.mem_singleton.2 rfl)))) (fun g hg hm => hs1 g hg (by unfold nmA; exact List.mem_append_right _ hm)) HQ.out.2.2.2.2.2.2
end Go.Proofs.YtaneibojiamjeaaGreatDoor
/-
  The walk of ScopeSound, from the definitions turned round on.
-/
namespace Go.Proofs.YtaneibojiamjeaaGreatDoor
open Go.RowKit Go.Maps
set_option maxRecDepth 100000

theorem own_fn1K (w : World) (B : Nat) (A : Nat → Prop) (v : Value) (gs : List Fn1) (g : Fn1) (h : OwF w B A v gs) (hB : B ≤ w.heap.size) (hA : ∀ k, A k → k < B) (b : Nat) (vs : List Value) (hg : FnW w A g vs) (hk : Bk w b 45 vs) (hn : gs.length ≤ 131071) :
    ∃ v' w', (Builtin.append_ #[24, 24] 24 #[v, .slice (some ⟨b, 0, none⟩) 1 1]).run Tryz.prog w = .ok v' w' ∧ OwF w' B A v' (gs ++ [g]) ∧ Kx (· = 45) B w w' ∧ w.grownBy w' v.ownBlock := by
  obtain ⟨v', w', r, o, _, gr⟩ := own_fn1 w B A v gs g h hB hA b vs hg hk hn
  obtain ⟨cs, h1, _⟩ := h
  exact ⟨v', w', r, o, Kx.grown h1 gr rfl, gr⟩
theorem OwF.kx {w w' : World} {S : TypeId → Prop} {B B' : Nat} {A : Nat → Prop} {v : Value} {gs : List Fn1} (h : OwF w B A v gs) (k : Kx S B' w w') (hS : ¬ S 45) (hA : ∀ b, A b → b < B') : OwF w' B A v gs := by
  obtain ⟨cs, h1, h2⟩ := h
  exact ⟨cs, k.own h1 hS, h2.keep k.size fun b hb hl => k.block b hl (.inl (hA b hb))⟩
theorem OwF.oth {w w' : World} {b0 B : Nat} {A : Nat → Prop} {v : Value} {gs : List Fn1} (h : OwF w B A v gs) (ho : Oth b0 w w') (hB : b0 < B) (hA : ∀ b, A b → b < b0) : OwF w' B A v gs := by
  obtain ⟨cs, h1, h2⟩ := h
  refine ⟨cs, owns_keep h1 fun b hk => ho.block b (by have := (owns_has h1 b hk).1; omega), h2.keep (by rw [ho.size]; exact Nat.le_refl _) fun b hb _ => ho.block b (Nat.ne_of_lt (hA b hb))⟩
theorem OwF.lt {w : World} {B : Nat} {A : Nat → Prop} {v : Value} {gs : List Fn1} (h : OwF w B A v gs) : ∀ b, v.ownBlock = some b → b < w.heap.size := fun b hk => by
  obtain ⟨cs, h1, _⟩ := h
  exact (owns_has h1 b hk).2
theorem bk_gr2 {w w' : World} {v : Value} {b : Nat} {t : TypeId} {vs : List Value} (h : w.grownBy w' v.ownBlock) (hb : Bk w b t vs) (hne : v.ownBlock ≠ some b) : Bk w' b t vs := by
  unfold Bk
  rw [h.block b hb.lt fun k => hne k.symm]
  exact hb
theorem rev_take {gs : List Fn1} {j k : Nat} (h : j + k + 1 = gs.length) : gs.reverse.take (k + 1) = gs.reverse.take k ++ [gs.getD j fd] := by
  have hk : k < gs.reverse.length := by rw [List.length_reverse]; omega
  have hj : j < gs.length := by omega
  rw [List.take_succ_eq_append_getElem hk, List.getElem_reverse, List.getD_eq_getElem?_getD, List.getElem?_eq_getElem hj]
  have e : gs.length - 1 - k = j := by omega
  simp only [e]
  rfl
theorem snd_new {gs : List Fn1} {j k : Nat} (hs : Snd gs) (h : j + k + 1 = gs.length) : (gs.getD j fd).name ∉ (gs.reverse.take k).map (·.name) := by
  intro hm
  obtain ⟨a, ha, e⟩ := List.mem_map.1 hm
  have hp : (gs.reverse.take (k + 1)).Pairwise (fun a b => a.name ≠ b.name) := (snd_rev hs).names.sublist (List.take_sublist _ _)
  rw [rev_take h, List.pairwise_append] at hp
  exact hp.2.2 a ha _ (List.mem_singleton.2 rfl) e
theorem fld06 (y a : Int) (w : World) : (Instr.field 31 (.agg #[.int .i64 y, .int .i64 a]) 0).run Tryz.prog w = .ok (.int .i64 y) w := by kernel_rfl
theorem bel_drewN' {B : Nat} {w w' : World} (h : Below B w w') (q : Nat) : Below B w (w'.drewN q) := ⟨h.os, h.tape, h.output, h.size, h.block⟩
theorem bk_rng0 {w : World} {b : Nat} {t : TypeId} {vs : List Value} (h : Bk w b t vs) : w.rangeAt b 0 vs := fun j v hj => by rw [h.cell, Nat.zero_add]; exact hj
theorem rng_bd {w : World} {b : Nat} {t : TypeId} {a b' c y0 y1 y2 y3 y4 y5 y6 z : Value} (h : Bk w b t [a, b', c, y0, y1, y2, y3, y4, y5, y6, z]) : w.rangeAt b 3 [y0, y1, y2, y3, y4, y5, y6] := by
  refine h.rng 3 _ fun j v hj => ?_
  have hl : j < 7 := by
    have := (List.getElem?_eq_some_iff.1 hj).1
    simpa using this
  have : j = 0 ∨ j = 1 ∨ j = 2 ∨ j = 3 ∨ j = 4 ∨ j = 5 ∨ j = 6 := by omega
  rcases this with rfl | rfl | rfl | rfl | rfl | rfl | rfl <;> exact hj

set_option maxHeartbeats 16000000 in
theorem sound_b {x1 x2 x4 x8 x9 x10 x11 x12 x13 x14 x15 x16 x17 x18 x19 x20 x21 x22 x23 x24 x25 x26 x27 x28 x29 x30 x31 x32 x33 x34 x35 x36 x37 x38 x39 x40 x41 x42 x43 x44 x45 x46 x47 x48 x49 x50 x51 x52 x53 x54 x55 x56 x57 x58 x59 x60 x61 x62 x63 x64 x65 x66 x67 x68 x69 x70 x71 x72 x73 x74 x75 x76 x77 x78 x79 x80 x81 x82 x83 x84 x85 x86 x87 x88 x89 x90 x91 x92 x93 x94 x95 x96 x97 x98 x99 x100 x101 x102 x103 x104 x105 x106 x107 x108 x109 x110 x111 x112 x113 x114 x115 x116 x117 x118 x119 x120 x121 x122 x123 x124 x125 x126 x127 x128 x129 x130 x131 x132 x133 x134 x135 x136 x137 x138 x139 x140 x141 x142 x143 x144 x145 x146 x147 x148 x149 x150 x151 x152 x153 x154 : Value} {ao0 a2 : Option Addr} {cap0 c2 bp bt : Nat} {l : List UInt8} {gs : List Fn1} {sd : Bool} (w0 W : World) (c : Code) (hc : Tryz.f7.body = some c) (hl : l.length ≤ 32768) (ht : Tab w0)
    (hB : Below w0.heap.size w0 W) (hbt : w0.heap.size ≤ bt) (hP : Bk W bp 26 [.slice a2 gs.length c2]) (hbp : bp < bt) (hT : Bk W bt 26 [.slice none 0 0]) (hF : FlW W (fun b => b < bt) a2 gs)
    (hok : PrgOk gs) (hln : ∀ g ∈ gs, lnF g) (hsn : sd = true → Snd gs) (hrv : sd = true → (scP gs.reverse).1 = 0) :
    Code.wp Tryz.prog (tl (tl (tl (tl (tl (tl (tl (c)))))))) (bodyPost Tryz.prog Tryz.f7 (fun e w' => e = .returned (.bool true) ∧ Below w0.heap.size w0 w')) { tmps := #[.slice ao0 l.length cap0, x1, x2, .pointer (some ⟨bp, 0, none⟩), x4, .bool sd, .pointer (some ⟨bt, 0, none⟩), .slice none 0 0, x8, x9, x10, x11, x12, x13, x14, x15, x16, x17, x18, x19, x20, x21, x22, x23, x24, x25, x26, x27, x28, x29, x30, x31, x32, x33, x34, x35, x36, x37, x38, x39, x40, x41, x42, x43, x44, x45, x46, x47, x48, x49, x50, x51, x52, x53, x54, x55, x56, x57, x58, x59, x60, x61, x62, x63, x64, x65, x66, x67, x68, x69, x70, x71, x72, x73, x74, x75, x76, x77, x78, x79, x80, x81, x82, x83, x84, x85, x86, x87, x88, x89, x90, x91, x92, x93, x94, x95, x96, x97, x98, x99, x100, x101, x102, x103, x104, x105, x106, x107, x108, x109, x110, x111, x112, x113, x114, x115, x116, x117, x118, x119, x120, x121, x122, x123, x124, x125, x126, x127, x128, x129, x130, x131, x132, x133, x134, x135, x136, x137, x138, x139, x140, x141, x142, x143, x144, x145, x146, x147, x148, x149, x150, x151, x152, x153, x154], defers := [] } W := by
  obtain rfl := Option.some.inj (hc.symm.trans (rfl : Tryz.f7.body = some _))
  clear hc
  dsimp only [tl]
  have HOK : Hid (PrgOk gs) := hok
  have HLN : Hid (∀ g ∈ gs, lnF g) := hln
  have HSN : Hid (sd = true → Snd gs) := hsn
  have HRV : Hid (sd = true → (scP gs.reverse).1 = 0) := hrv
  have HP : Hid (Bk W bp 26 [.slice a2 gs.length c2]) := hP
  have HF : Hid (FlW W (fun b => b < bt) a2 gs) := hF
  have HB : Hid (Below w0.heap.size w0 W ∧ w0.heap.size ≤ bt ∧ bp < bt ∧ l.length ≤ 32768 ∧ bt < W.heap.size ∧ Tab w0) := ⟨hB, hbt, hbp, hl, hT.lt, ht⟩
  have HT : Hid (Bk W bt 26 [.slice none 0 0] ∧ OwF W (bt + 1) (fun b => b < bt) (.slice none 0 0) (gs.reverse.take 0) ∧ OwN W (bt + 1) (.slice none 0 0) ((gs.reverse.take 0).map (·.name))) :=
    ⟨hT, OwF.nil _ _ _, World.ownsRow_nil _ _ _ _⟩
  obtain ⟨n, hn⟩ : ∃ n, n = gs.length := ⟨_, rfl⟩
  have HN : Hid (n = gs.length) := hn
  have hnm : n ≤ 32769 := by rw [hn]; exact hok.num
  have p0 : W.cell? ⟨bp, 0, none⟩ = some (.slice a2 gs.length c2) := hP.cell 0
  rw [← hn] at p0
  have hw1 : IntKind.i64.wrap ((n : Int) - 1) = (n : Int) - 1 := by rw [IntKind.wrap_i64]; omega
  clear hok hln hP hT hF hB hbt hbp hl ht hn hsn hrv
  go_wp2_with fail
  go_loopw [7, 8] (fun v i wr => ∃ (k : Nat) (vt : Value), k ≤ n ∧ i = .int .i64 ((n : Int) - 1 - k) ∧ Below bt W wr ∧ Hid (Bk wr bt 26 [vt] ∧ OwF wr (bt + 1) (fun b => b < bt) vt (gs.reverse.take k) ∧ OwN wr (bt + 1) v ((gs.reverse.take k).map (·.name)))) (fun _ i _ => (intOf i + 1).toNat)
  case atStart => exact ⟨0, _, Nat.zero_le _, by simp, Below.refl _ _, HT⟩
  case round =>
    obtain ⟨k, vt, hkn, rfl, hBr, hZ⟩ := hrel
    clear p0 HT hw1
    have hPr : Bk wr bp 26 [.slice a2 gs.length c2] := by
      unfold Bk
      rw [hBr.block bp HB.out.2.2.1]
      exact HP.out
    have hFr : FlW wr (fun b => b < bt) a2 gs := HF.out.keep hBr.size fun b hb _ => hBr.block b hb
    have p0 : wr.cell? ⟨bp, 0, none⟩ = some (.slice a2 gs.length c2) := hPr.cell 0
    rw [← HN.out] at p0
    have hwb : bt < wr.heap.size := hZ.out.1.lt
    by_cases hlt : k < n
    · obtain ⟨j, hj⟩ : ∃ j, j + k + 1 = n := ⟨n - 1 - k, by omega⟩
      have hji : (n : Int) - 1 - k = (j : Int) := by omega
      rw [hji]
      have HJ : Hid (j + k + 1 = n) := hj
      have hjn : (j : Int) < (n : Int) := by omega
      have hj0 : (0 : Int) ≤ (j : Int) := by omega
      have hjg : j < gs.length := by rw [← HN.out]; omega
      have hmem : gs.getD j fd ∈ gs := by rw [List.getD_eq_getElem?_getD, List.getElem?_eq_getElem hjg]; exact List.getElem_mem hjg
      have hsz : szE (gs.getD j fd).body ≤ 32769 := HOK.out.sz _ hmem
      have hps : (gs.getD j fd).pms.length ≤ 32769 := HOK.out.pms _ hmem
      have hlg := HLN.out _ hmem
      obtain ⟨G, vs, rfl, hAG, hv, hxv⟩ := hFr.at j hjg
      have HTk : Hid (gs.reverse.take (k + 1) = gs.reverse.take k ++ [gs.getD j fd]) := rev_take (by rw [← HN.out]; exact hj)
      have HNw : Hid (sd = true → (gs.getD j fd).name ∉ (gs.reverse.take k).map (·.name)) := fun e => snd_new (HSN.out e) (by rw [← HN.out]; exact hj)
      have HFr : Hid (sd = true → ∀ s ∈ fsE (gs.getD j fd).body, s ∈ (gs.getD j fd).pms.map (·.name)) := fun e s hs => snd_free (HSN.out e) hmem hs
      obtain ⟨g, hg⟩ : ∃ g, g = gs.getD j fd := ⟨_, rfl⟩
      rw [← hg] at hsz hps hlg hxv HTk HNw HFr
      clear hg hmem hjg hji hj
      obtain ⟨ap, cp, es, hvs, hp1, hx1⟩ := id hxv
      obtain ⟨q0, q1, q2, q3, q4, q5, q6, rfl⟩ := list7 hx1.len
      simp only [List.cons_append, List.nil_append] at hvs
      subst hvs
      have hone : ∀ v ∈ ([.string (bs g.name), .slice ap g.pms.length cp, .int .i64 g.ty, q0, q1, q2, q3, q4, q5, q6, .int .i64 g.pos] : List Value), v.oneCell' = true := hxv.one
      have HL : Hid (szE g.body ≤ 32769 ∧ g.pms.length ≤ 32769 ∧ lnF g) := ⟨hsz, hps, hlg⟩
      have HX : Hid (FnW wr (fun b => b < bt) g [.string (bs g.name), .slice ap g.pms.length cp, .int .i64 g.ty, q0, q1, q2, q3, q4, q5, q6, .int .i64 g.pos] ∧ PlW wr (fun b => b < bt) ap g.pms ∧ ExW wr (fun b => b < bt) g.body [q0, q1, q2, q3, q4, q5, q6]) := ⟨hxv, hp1, hx1⟩
      clear hsz hps hlg hxv hp1 hx1
      have hZf := Bk.new wr 45 #[.string ⟨#[]⟩, .slice none 0 0, .int .i64 0, .int .i64 0, .string ⟨#[]⟩, .string ⟨#[]⟩, .int .i64 0, .complex .f64 0 0, .slice none 0 0, .int .i64 0, .int .i64 0]
      go_upto_region 13 with (first
        | refine wpList_loadN rfl 45 (.tmp 42) rfl G (j * 11) rfl [.string (bs g.name), .slice ap g.pms.length cp, .int .i64 g.ty, q0, q1, q2, q3, q4, q5, q6, .int .i64 g.pos] _ hv Tryz.underFn Tryz.infoFn ?_
        | (refine wpList_storeN rfl 45 (.tmp 9) (.tmp 43) rfl wr.heap.size 0 [.string (bs g.name), .slice ap g.pms.length cp, .int .i64 g.ty, q0, q1, q2, q3, q4, q5, q6, .int .i64 g.pos] rfl rfl hZf (Nat.le_refl 11) Tryz.infoFn hone ?_; intro w5 hV5 hO5))
      have hV5 : Bk w5 wr.heap.size 45 [.string (bs g.name), .slice ap g.pms.length cp, .int .i64 g.ty, q0, q1, q2, q3, q4, q5, q6, .int .i64 g.pos] := hV5
      have hb5 : Below wr.heap.size wr w5 := (below_alloc wr _).trans (hO5.below (Nat.le_refl _))
      clear hO5
      obtain ⟨bf, hbf⟩ : ∃ b, b = wr.heap.size := ⟨_, rfl⟩
      rw [← hbf] at hV5 ⊢
      have hbf1 : bf ≤ wr.heap.size := by omega
      have hbf2 : wr.heap.size ≤ bf := by omega
      clear hbf
      have hT5 := hZ.out.1.up hb5
      have hF5 := hZ.out.2.1.up hb5
      have hO5' := hZ.out.2.2.upp hb5
      have hx5 := HX.out.1.up hb5
      have hlv := hZ.out.2.1.lt
      have hw5 := hV5.lt
      have t5 : w5.cell? ⟨bt, 0, none⟩ = some vt := hT5.cell 0
      have r5 := bk_rng0 hV5
      have hb6 := below_alloc w5 (.cells #[.string (bs g.name), .slice ap g.pms.length cp, .int .i64 g.ty, q0, q1, q2, q3, q4, q5, q6, .int .i64 g.pos] 45)
      have hkl : (gs.reverse.take k).length ≤ 131071 := by rw [List.length_take, List.length_reverse, ← HN.out]; omega
      obtain ⟨v7, w7, R7, hF7, hK7, hG7⟩ := own_fn1K (w5.alloc (.cells #[.string (bs g.name), .slice ap g.pms.length cp, .int .i64 g.ty, q0, q1, q2, q3, q4, q5, q6, .int .i64 g.pos] 45)) (bt + 1) (fun b => b < bt) vt (gs.reverse.take k) g (hF5.up hb6) (by have := hb6.size; omega) (fun b hb => Nat.lt_succ_of_lt hb) w5.heap.size _ (hx5.up hb6) (Bk.new w5 45 #[.string (bs g.name), .slice ap g.pms.length cp, .int .i64 g.ty, q0, q1, q2, q3, q4, q5, q6, .int .i64 g.pos]) hkl
      rw [← HTk.out] at hF7
      obtain ⟨a7, c7, e7, _⟩ := hF7.flw
      subst e7
      obtain ⟨m7, hm7⟩ : ∃ m, m = (gs.reverse.take (k + 1)).length := ⟨_, rfl⟩
      rw [← hm7] at R7 hF7
      clear hm7
      have hT7 : Bk w7 bt 26 [vt] := hK7.bk (hT5.up hb6) (by decide)
      have hV7 : Bk w7 bf 45 [.string (bs g.name), .slice ap g.pms.length cp, .int .i64 g.ty, q0, q1, q2, q3, q4, q5, q6, .int .i64 g.pos] := bk_gr2 hG7 (hV5.up hb6) (fun e => by have := hlv _ e; omega)
      have hN7 : OwN w7 (bt + 1) _ ((gs.reverse.take k).map (·.name)) := hK7.own (hO5'.upp hb6) (by decide)
      have hx7 : FnW w7 (fun b => b < bt) g [.string (bs g.name), .slice ap g.pms.length cp, .int .i64 g.ty, q0, q1, q2, q3, q4, q5, q6, .int .i64 g.pos] := (hx5.up hb6).keep hK7.size fun b hb hl => hK7.block b hl (.inl (Nat.lt_succ_of_lt hb))
      have hB7 : Below bt W w7 := hBr.trans (((hb5.mono (Nat.le_of_lt hwb)).trans (hb6.mono (by omega))).trans ((hK7.below (by have := hb6.size; omega)).mono (Nat.le_succ bt)))
      have t7 : w7.cell? ⟨bt, 0, none⟩ = some vt := hT7.cell 0
      have z7 : w7.frozen? ⟨bt, 0, none⟩ = false := hT7.frz 0
      go_upto_region 14 with (first
        | refine wpList_loadN rfl 45 (.tmp 9) rfl bf 0 rfl [.string (bs g.name), .slice ap g.pms.length cp, .int .i64 g.ty, q0, q1, q2, q3, q4, q5, q6, .int .i64 g.pos] _ r5 Tryz.underFn Tryz.infoFn ?_
        | (at_builtin; refine wpList_append_run rfl (.tmp 45) (.tmp 47) 24 rfl rfl _ _ rfl rfl _ _ (show _ = _ from R7) ?_))
      obtain ⟨w8, hw8⟩ : ∃ w8, w8 = w7.setCell ⟨bt, 0, none⟩ (.slice a7 m7 c7) := ⟨_, rfl⟩
      rw [← hw8]
      have ho8 := (Oth.refl bt w7).set 0 (.slice a7 m7 c7)
      rw [← hw8] at ho8
      have hT8 : Bk w8 bt 26 [.slice a7 m7 c7] := by rw [hw8]; exact hT7.set 0 _
      have hF8 := hF7.oth ho8 (Nat.lt_succ_self _) (fun b hb => hb)
      have hN8 : OwN w8 (bt + 1) _ ((gs.reverse.take k).map (·.name)) := owns_keep hN7 fun b hk => ho8.block b (by have := (owns_has hN7 b hk).1; omega)
      have hV8 := hV7.oth ho8 (by omega)
      have hx8 : FnW w8 (fun b => b < bt) g [.string (bs g.name), .slice ap g.pms.length cp, .int .i64 g.ty, q0, q1, q2, q3, q4, q5, q6, .int .i64 g.pos] := hx7.keep (by rw [ho8.size]; exact Nat.le_refl _) fun b hb _ => ho8.block b (Nat.ne_of_lt hb)
      have hB8 : Below bt W w8 := hB7.trans (ho8.below (Nat.le_refl _))
      have hW8s : w5.heap.size ≤ w8.heap.size := by
        have := ho8.size
        have := hK7.size
        have := hb6.size
        omega
      clear hw8 ho8 t5 t7 z7 r5 R7 hF7 hK7 hG7 hT7 hV7 hN7 hx7 hB7 hT5 hF5 hO5' hx5 hb6 hkl hZf hone hV5 hv
      obtain ⟨an, cn, en, Nn, _, _⟩ := hN8.names
      subst en
      have hh := rhas_any (cap := cn) Nn (by rw [List.length_map, List.length_take, List.length_reverse, ← HN.out]; omega) g.name
      have nm0 : w8.cell? ⟨bf, 0, none⟩ = some (.string (bs g.name)) := hV8.cell 0
      have hb9 := below_alloc w8 (.cells #[.string (bs g.name)] 9)
      obtain ⟨v10, w10, R10, hN10, hK10⟩ := on_one (hN8.upp hb9) (by have := hb9.size; omega) (by rw [List.length_map, List.length_take, List.length_reverse, ← HN.out]; omega) (g := w8.heap.size) (o := 0) (cap := 1) (s := g.name) ((Bk.new w8 9 #[.string (bs g.name)]).cell 0)
      have eN : (gs.reverse.take k).map (·.name) ++ [g.name] = (gs.reverse.take (k + 1)).map (·.name) := by rw [HTk.out, List.map_append]; rfl
      rw [eN] at hN10
      obtain ⟨nk, hnk⟩ : ∃ m, m = ((gs.reverse.take k).map (·.name)).length := ⟨_, rfl⟩
      rw [← hnk] at hh R10 ⊢
      have HH : Hid (Calls Tryz.prog 19 #[.slice an nk cn, .string (bs g.name)] w8 fun e w' => e = .returned (.bool (decide (g.name ∈ (gs.reverse.take k).map (·.name)))) ∧ w' = w8) := hh
      have HR10 : Hid (_ = _) := R10
      have HK10 : Hid (Kx (· = 9) (bt + 1) (w8.alloc (.cells #[.string (bs g.name)] 9)) w10 ∧ OwN w10 (bt + 1) v10 ((gs.reverse.take (k + 1)).map (·.name))) := ⟨hK10, hN10⟩
      have hlt' : Hid (k < n) := hlt
      clear hnk eN hh R10 hK10 hN10 hN8 Nn hlt
      go_cut [56] (fun b wx => b = .bool false ∧ Hid (wx = w8))
      case first =>
        cases sd with
        | false =>
          go_wp2_with fail
          go_meet
          case rel => exact ⟨rfl, rfl⟩
        | true =>
          have hh := HH.out
          rw [decide_eq_false (HNw.out rfl)] at hh
          go_wp2_with fail
          refine hh.mono ?_
          rintro e wq ⟨rfl, hq⟩
          rw [hq]
          clear hq wq hh
          go_wp2_with fail
          go_meet
          case rel => exact ⟨rfl, rfl⟩
      case rest =>
        obtain ⟨rfl, hwc⟩ := hcut
        rw [hwc.out]
        clear hwc HH
        have hK10 := HK10.out.1
        have hT10 := hK10.bk (hT8.up hb9) (by decide)
        have hF10 := (hF8.up hb9).kx hK10 (by decide) (fun b hb => Nat.lt_succ_of_lt hb)
        have hV10 := hK10.bk (hV8.up hb9) (by decide)
        have hx10 : FnW w10 (fun b => b < bt) g [.string (bs g.name), .slice ap g.pms.length cp, .int .i64 g.ty, q0, q1, q2, q3, q4, q5, q6, .int .i64 g.pos] := (hx8.up hb9).keep hK10.size fun b hb hl => hK10.block b hl (.inl (Nat.lt_succ_of_lt hb))
        have hB10 : Below bt W w10 := hB8.trans ((hb9.mono (by omega)).trans ((hK10.below (by have := hb9.size; omega)).mono (Nat.le_succ bt)))
        go_upto_region 17 with (at_builtin; refine wpList_append_run rfl (.tmp 57) (.tmp 60) 35 rfl rfl _ _ rfl rfl _ _ (show _ = _ from HR10.out) ?_)
        obtain ⟨ap', cp', es', hvs', hp10, hx10b⟩ := id hx10
        have r10 := rng_bd hV10
        have hxb : ExW w10 (fun b => b < bt) g.body [q0, q1, q2, q3, q4, q5, q6] := by
          have := hx10b.len
          obtain ⟨u0, u1, u2, u3, u4, u5, u6, rfl⟩ := list7 hx10b.len
          simp only [List.cons_append, List.nil_append, List.cons.injEq, Value.slice.injEq, and_true, true_and] at hvs'
          obtain ⟨_, h0, h1, h2, h3, h4, h5, h6⟩ := hvs'
          subst h0 h1 h2 h3 h4 h5 h6
          exact hx10b
        have hpq : PlW w10 (fun b => b < bt) ap g.pms := by
          obtain ⟨u0, u1, u2, u3, u4, u5, u6, rfl⟩ := list7 hx10b.len
          simp only [List.cons_append, List.nil_append, List.cons.injEq, Value.slice.injEq, and_true, true_and] at hvs'
          obtain ⟨⟨h0, _⟩, _⟩ := hvs'
          subst h0
          exact hp10
        have m := free6_any (by have := HL.out.1; omega) HL.out.2.2.body w10 _ _ hxb
        have HV10 : Hid (Bk w10 bf 45 [.string (bs g.name), .slice ap g.pms.length cp, .int .i64 g.ty, q0, q1, q2, q3, q4, q5, q6, .int .i64 g.pos] ∧ PlW w10 (fun b => b < bt) ap g.pms) := ⟨hV10, hpq⟩
        have HZ10 : Hid (Bk w10 bt 26 [.slice a7 m7 c7] ∧ OwF w10 (bt + 1) (fun b => b < bt) (.slice a7 m7 c7) (gs.reverse.take (k + 1)) ∧ OwN w10 (bt + 1) v10 ((gs.reverse.take (k + 1)).map (·.name)) ∧ Below bt W w10 ∧ bt < w10.heap.size) := ⟨hT10, hF10, HK10.out.2, hB10, hT10.lt⟩
        clear hvs' hp10 hx10b hxb hpq hT10 hF10 hV10 hx10 hB10 hK10 HK10 HR10 hb9 hT8 hF8 hV8 hx8 hB8 nm0 hb5 p0 hPr hFr
        go_upto_region 18 with (first
          | refine wpList_loadN rfl 43 (.tmp 62) rfl bf 3 rfl [q0, q1, q2, q3, q4, q5, q6] _ r10 Tryz.underE Tryz.infoE ?_
          | (go_at_call 20; refine m.mono ?_; rintro e w11 ⟨⟨v11, o11, rfl, hI, hO⟩, hb11⟩))
        obtain ⟨a11, c11, e11, N11, _, _⟩ := hO.names
        subst e11
        have HV11 : Hid (Bk w11 bf 45 [.string (bs g.name), .slice ap g.pms.length cp, .int .i64 g.ty, q0, q1, q2, q3, q4, q5, q6, .int .i64 g.pos] ∧ PlW w11 (fun b => b < bt) ap g.pms ∧ Ns w11 a11 o11) := ⟨HV10.out.1.up hb11, HV10.out.2.keep hb11.size fun b _ hl => hb11.block b hl, N11⟩
        have HIn : Hid (sd = true → ∀ i s, o11[i]? = some s → s ∈ g.pms.map (·.name)) := fun e i s hs => HFr.out e s (by
          have := (hI.2 s).1 (List.mem_of_getElem? hs)
          rwa [frE_fsE] at this)
        have HZ11 : Hid (Bk w11 bt 26 [.slice a7 m7 c7] ∧ OwF w11 (bt + 1) (fun b => b < bt) (.slice a7 m7 c7) (gs.reverse.take (k + 1)) ∧ OwN w11 (bt + 1) v10 ((gs.reverse.take (k + 1)).map (·.name)) ∧ Below bt W w11 ∧ bt < w11.heap.size) :=
          ⟨HZ10.out.1.up hb11, HZ10.out.2.1.up hb11, HZ10.out.2.2.1.upp hb11, HZ10.out.2.2.2.1.trans (hb11.mono (Nat.le_of_lt HZ10.out.2.2.2.2)), Nat.lt_of_lt_of_le HZ10.out.2.2.2.2 hb11.size⟩
        obtain ⟨no, hno⟩ : ∃ no, no = o11.length := ⟨_, rfl⟩
        rw [← hno]
        have HNO : Hid (no = o11.length) := hno
        obtain ⟨np, hnp⟩ : ∃ np, np = g.pms.length := ⟨_, rfl⟩
        have HNP : Hid (np = g.pms.length) := hnp
        have hnpm : np ≤ 32769 := by rw [hnp]; exact HL.out.2.1
        have hnom : no ≤ 65536 := by
          have h1 := srt_len hI
          rw [frE_fsE] at h1
          have h2 := fsE_len g.body
          have h3 := HL.out.1
          omega
        have wj : IntKind.i64.wrap ((j : Int) - 1) = (j : Int) - 1 := by rw [IntKind.wrap_i64]; omega
        clear hno hnp hI hO hb11 N11 m r10 HV10 HZ10 HFr HNw
        go_wp2_with fail
        go_loopw [11] (fun i wx => ∃ q : Nat, q ≤ no ∧ i = .int .i64 q ∧ Below w11.heap.size w11 wx) (fun i _ => no - (intOf i).toNat)
        case atStart => exact ⟨0, Nat.zero_le _, rfl, Below.refl _ _⟩
        case round =>
          obtain ⟨q, hqn, rfl, hBq⟩ := hrel
          have hVq := HV11.out.1.up hBq
          have hPq : PlW wr (fun b => b < bt) ap g.pms := HV11.out.2.1.keep hBq.size fun b _ hl => hBq.block b hl
          have hNq := HV11.out.2.2.up hBq
          have hZq : Hid (Bk wr bt 26 [.slice a7 m7 c7] ∧ OwF wr (bt + 1) (fun b => b < bt) (.slice a7 m7 c7) (gs.reverse.take (k + 1)) ∧ OwN wr (bt + 1) v10 ((gs.reverse.take (k + 1)).map (·.name)) ∧ Below bt W wr) :=
            ⟨HZ11.out.1.up hBq, HZ11.out.2.1.up hBq, HZ11.out.2.2.1.upp hBq, HZ11.out.2.2.2.1.trans (hBq.mono (Nat.le_of_lt HZ11.out.2.2.2.2))⟩
          have f1 : wr.cell? ⟨bf, 1, none⟩ = some (.slice ap g.pms.length cp) := hVq.cell 1
          rw [← HNP.out] at f1
          have hkn2 : k < n := hlt'.out
          cases sd with
          | false =>
            clear hPq hNq
            by_cases hq : q < no
            · have hqi : (q : Int) < (no : Int) := by omega
              go_wp2_with fail
              go_roundw
              case rel => exact ⟨k + 1, _, by omega, by have := HJ.out; congr 1; omega, hZq.out.2.2.2, ⟨hZq.out.1, hZq.out.2.1, hZq.out.2.2.1⟩⟩
              case measure => simp [intOf]
            · have hqi : ¬ (q : Int) < (no : Int) := by omega
              go_wp2_with fail
              go_roundw
              case rel => exact ⟨k + 1, _, by omega, by have := HJ.out; congr 1; omega, hZq.out.2.2.2, ⟨hZq.out.1, hZq.out.2.1, hZq.out.2.2.1⟩⟩
              case measure => simp [intOf]
          | true =>
            by_cases hq : q < no
            · obtain ⟨s, hs⟩ : ∃ s, o11[q]? = some s := ⟨_, List.getElem?_eq_getElem (by rw [← HNO.out]; exact hq)⟩
              obtain ⟨ga, oa, rfl, hcs⟩ := hNq q s hs
              have HIs : Hid (s ∈ g.pms.map (·.name)) := HIn.out rfl q s hs
              have hqi : (q : Int) < (no : Int) := by omega
              have HW : Hid (Below w11.heap.size w11 wr) := hBq
              have HPq : Hid (PlW wr (fun b => b < bt) ap g.pms ∧ wr.cell? ⟨bf, 1, none⟩ = some (.slice ap np cp) ∧ wr.cell? ⟨ga, oa + q, none⟩ = some (.string (bs s)) ∧ q < no) := ⟨hPq, f1, hcs, hq⟩
              clear hNq hPq hVq f1 hcs hs hBq
              obtain ⟨wo, hwo⟩ : ∃ wo, wo = wr := ⟨_, rfl⟩
              rw [← hwo] at HPq HW ⊢
              have HZq : Hid (Bk wo bt 26 [.slice a7 m7 c7] ∧ OwF wo (bt + 1) (fun b => b < bt) (.slice a7 m7 c7) (gs.reverse.take (k + 1)) ∧ OwN wo (bt + 1) v10 ((gs.reverse.take (k + 1)).map (·.name)) ∧ Below bt W wo) := by rw [hwo]; exact hZq
              clear hwo hZq hq
              go_wp2_with fail
              go_loopw [12, 13] (fun h i wx => ∃ r : Nat, r ≤ np ∧ i = .int .i64 r ∧ h = .bool (decide (s ∈ (g.pms.take r).map (·.name))) ∧ Below wo.heap.size wo wx) (fun _ i _ => np - (intOf i).toNat)
              case atStart => exact ⟨0, Nat.zero_le _, rfl, by simp, Below.refl _ _⟩
              case round =>
                obtain ⟨r, hrn, rfl, rfl, hBr2⟩ := hrel
                have f1 := (hBr2.cell (cell_lt HPq.out.2.1)).trans HPq.out.2.1
                have f2 := (hBr2.cell (cell_lt HPq.out.2.2.1)).trans HPq.out.2.2.1
                have hqno : q < no := HPq.out.2.2.2
                by_cases hr : r < np
                · have hrg : r < g.pms.length := by rw [← HNP.out]; exact hr
                  obtain ⟨gp, e, hpc⟩ := PlW.at HPq.out.1 r hrg
                  have f3 : wo.cell? ⟨gp, r * 3, none⟩ = some (.string (bs (g.pms.getD r pd).name)) := by have := hpc 0 _ rfl; simpa using this
                  replace f3 := (hBr2.cell (cell_lt f3)).trans f3
                  rw [e] at f1
                  have hTk : (g.pms.take (r + 1)).map (·.name) = (g.pms.take r).map (·.name) ++ [(g.pms.getD r pd).name] := by
                    rw [List.take_succ_eq_append_getElem hrg, List.map_append, List.getD_eq_getElem?_getD, List.getElem?_eq_getElem hrg]; rfl
                  have hD : decide (s ∈ (g.pms.take (r + 1)).map (·.name)) = (decide (s ∈ (g.pms.take r).map (·.name)) || decide ((g.pms.getD r pd).name = s)) := by
                    have hm : (s ∈ (g.pms.take r).map (·.name) ++ [(g.pms.getD r pd).name]) ↔ (s ∈ (g.pms.take r).map (·.name) ∨ (g.pms.getD r pd).name = s) := by
                      rw [List.mem_append, List.mem_singleton]
                      exact ⟨fun h => h.imp id Eq.symm, fun h => h.imp id Eq.symm⟩
                    rw [Bool.eq_iff_iff, Bool.or_eq_true, decide_eq_true_eq, decide_eq_true_eq, decide_eq_true_eq, hTk]
                    exact hm
                  obtain ⟨pn, hpn⟩ : ∃ pn, pn = (g.pms.getD r pd).name := ⟨_, rfl⟩
                  rw [← hpn] at f3 hD
                  obtain ⟨d1, hd1⟩ : ∃ d, d = decide (s ∈ (g.pms.take (r + 1)).map (·.name)) := ⟨_, rfl⟩
                  rw [← hd1] at hD
                  have HD1 : Hid (d1 = decide (s ∈ (g.pms.take (r + 1)).map (·.name))) := hd1
                  clear hpn hTk hpc hrg hd1 e
                  generalize decide (s ∈ (g.pms.take r).map (·.name)) = d0 at *
                  cases d0 with
                  | true =>
                    obtain rfl : d1 = true := hD
                    clear f3
                    go_wp2_with fail
                    go_quiet (fail)
                    go_wp2
                    go_roundw
                    case rel => exact ⟨r + 1, by omega, by go_num, by rw [← HD1.out], bel_drewN' hBr2 _⟩
                    case measure => simp [intOf]; omega
                  | false =>
                    by_cases hps : pn = s
                    · have hpe : ((bs pn).toList == (bs s).toList) = true := by rw [hps]; simp
                      obtain rfl : d1 = true := by rw [hD, decide_eq_true hps]; rfl
                      clear hD hps
                      go_wp2_with fail
                      go_quiet (fail)
                      go_wp2
                      go_roundw
                      case rel => exact ⟨r + 1, by omega, by go_num, by rw [← HD1.out], bel_drewN' hBr2 _⟩
                      case measure => simp [intOf]; omega
                    · have hpe : ((bs pn).toList == (bs s).toList) = false := bs_ne hps
                      obtain rfl : d1 = false := by rw [hD, decide_eq_false hps]; rfl
                      clear hD hps
                      go_wp2_with fail
                      go_quiet (fail)
                      go_wp2
                      go_roundw
                      case rel => exact ⟨r + 1, by omega, by go_num, by rw [← HD1.out], bel_drewN' hBr2 _⟩
                      case measure => simp [intOf]; omega
                · have hre : r = np := by omega
                  have hD : decide (s ∈ (g.pms.take r).map (·.name)) = true := by
                    rw [List.take_of_length_le (by rw [hre, HNP.out]; exact Nat.le_refl _)]
                    exact decide_eq_true HIs.out
                  rw [hD]
                  clear hD f2
                  subst hre
                  go_wp2_with fail
                  go_roundw
                  case rel => exact ⟨q + 1, by omega, by go_num, Below.thn HW.out hBr2⟩
                  case measure => simp [intOf]; omega
            · have hqi : ¬ (q : Int) < (no : Int) := by omega
              go_wp2_with fail
              go_roundw
              case rel => exact ⟨k + 1, _, by omega, by have := HJ.out; congr 1; omega, hZq.out.2.2.2, ⟨hZq.out.1, hZq.out.2.1, hZq.out.2.2.1⟩⟩
              case measure => simp [intOf]
    · have hke : k = n := by omega
      have hji : (n : Int) - 1 - k = -1 := by omega
      rw [hji]
      have hTk : gs.reverse.take k = gs.reverse := List.take_of_length_le (by rw [List.length_reverse, hke, HN.out]; exact Nat.le_refl _)
      have hZ' := hZ.out
      rw [hTk] at hZ'
      have HZ : Hid (Bk wr bt 26 [vt] ∧ OwF wr (bt + 1) (fun b => b < bt) vt gs.reverse ∧ OwN wr (bt + 1) _ (gs.reverse.map (·.name))) := hZ'
      clear hZ hZ' hTk hji hlt
      obtain ⟨at_, ct, et, hft⟩ := HZ.out.2.1.flw
      subst et
      have t0 : wr.cell? ⟨bt, 0, none⟩ = some (.slice at_ gs.reverse.length ct) := HZ.out.1.cell 0
      have HCk : Hid (sd = true → Calls Tryz.prog 11 #[.agg #[.slice at_ gs.reverse.length ct]] wr fun e w' => e = .returned (.agg #[.int .i64 0, .int .i64 (scP gs.reverse).2]) ∧ Below wr.heap.size wr w') := fun e => by
        have h := scopeCheck_any (c := ct) (hft.imp (A' := fun b => b < wr.heap.size) fun b _ hl => hl) (fun _ h => h) (fun g hg => HLN.out g (by simpa using hg)) (fun g hg => by have := HOK.out.sz g (by simpa using hg); omega) (fun g hg => by have := HOK.out.pms g (by simpa using hg); omega) (by have := HOK.out.num; rw [List.length_reverse]; omega)
        rw [HRV.out e] at h
        exact h
      obtain ⟨mr, hmr⟩ : ∃ m, m = gs.reverse.length := ⟨_, rfl⟩
      rw [← hmr] at t0 HCk HZ
      have hfl := fun w => fld06 0 (scP gs.reverse).2 w
      have HPF : Hid (Bk wr bp 26 [.slice a2 gs.length c2] ∧ FlW wr (fun b => b < bt) a2 gs ∧ Below bt W wr) := ⟨hPr, hFr, hBr⟩
      clear hmr hft hPr hFr hBr
      generalize (scP gs.reverse).2 = z at *
      subst hke
      go_upto_region 28 with fail
      go_cut [103] (fun b wx => b = .bool false ∧ Below wr.heap.size wr wx)
      case first =>
        cases sd with
        | false =>
          clear hfl
          go_wp2_with fail
          go_meet
          case rel => exact ⟨rfl, Below.refl _ _⟩
        | true =>
          go_wp2_with fail
          refine (HCk.out (by trivial)).mono ?_
          rintro e wq ⟨rfl, hbq⟩
          have hf := hfl wq
          clear hfl
          go_wp2_with fail
          go_meet
          case rel => exact ⟨rfl, hbq⟩
      case rest =>
        rename_i K1 h1 K0 h0
        obtain ⟨rfl, hbc⟩ := hcut
        refine h0 _ _ (wp_cond_false rfl (wp_skip ?_))
        simp only [Exit.then]
        refine h1 _ _ ?_
        have hbB := HB.out.2.1
        exact sound_c w0 wc _ rfl HB.out.2.2.2.1 HB.out.2.2.2.2.2 (HB.out.1.trans ((HPF.out.2.2.mono hbB).trans (hbc.mono (by omega)))) hbB (HPF.out.1.up hbc) HB.out.2.2.1 (HZ.out.1.up hbc) (HPF.out.2.1.up hbc) HOK.out HLN.out (HZ.out.2.2.upp hbc) (by rw [List.length_map, List.length_reverse, ← HN.out]; exact hnm) (fun s hs => by
          obtain ⟨g, hg, rfl⟩ := List.mem_map.1 hs
          exact (HLN.out g (by simpa using hg)).name)
end Go.Proofs.YtaneibojiamjeaaGreatDoor
/-
  The walk of ScopeSound.
-/
namespace Go.Proofs.YtaneibojiamjeaaGreatDoor
open Go.RowKit Go.Maps
set_option maxRecDepth 100000

set_option maxHeartbeats 16000000 in
theorem scopeSound_any (ao : Option Addr) (cap : Nat) (l : List UInt8) (hcap : l.length ≤ cap) (w : World) (hT : Bd w ao l) (ht : Tab w) :
    Calls Tryz.prog 7 #[.slice ao l.length cap] w fun e w' => e = .returned (.bool true) ∧ Below w.heap.size w w' := by
  obtain ⟨F, hF⟩ : ∃ F, F = 12 * (l.length + 1) + 9 := ⟨_, rfl⟩
  have hfu : ∀ ms, cut rdN l 0 = .ok ms → progL (mf ms) LW5 F [] 0 ≠ .out := fuel_ok l LW5 F (by omega)
  have HF : Hid (F = 12 * (l.length + 1) + 9) := hF
  clear hF
  go_enter Tryz.func7, Tryz.ntmps7
  go_wp2_with fail
  refine (awake6_any w ht).mono ?_
  rintro e w1 ⟨rfl, hb1⟩
  have m2 := read5_any ao cap l hcap w1 (hT.up hb1) F hfu
  go_wp2_with fail
  refine m2.mono ?_
  rintro e w2 ⟨hb2, hrd⟩
  have hB2 := Below.thn hb1 hb2
  clear m2 hb1 hb2
  rcases rd_fork hrd with ⟨ms, gs, j, a2, c2, hl, hc, hp, rfl, hfl⟩ | rfl
  · have hok : PrgOk gs := prgOk hl (by rw [HF.out]; exact Nat.le_refl _) hc hp
    have HLN : Hid (∀ g ∈ gs, lnF g) := prgLn hl hc hp
    have HND : Hid ((gs.flatMap nmF).Nodup) := places_apart (cut_row rdN l 0 ms hc) hp
    have HLL : Hid (l.length ≤ 32768) := hl
    have hb3 := below_alloc w2 (.cells #[.slice a2 gs.length c2] 26)
    have hP3 := Bk.new w2 26 #[.slice a2 gs.length c2]
    have HB3 : Hid (Below w.heap.size w _) := Below.thn hB2 hb3
    have hf3 := hfl.up hb3
    have HOK : Hid (PrgOk gs) := hok
    go_upto_region 4 with fail
    obtain ⟨bp, hbp⟩ : ∃ b, b = w2.heap.size := ⟨_, rfl⟩
    have hbpl : bp < (w2.alloc (.cells #[.slice a2 gs.length c2] 26)).heap.size := by rw [hbp]; exact hP3.lt
    rw [← hbp] at hP3 ⊢
    generalize hW3 : w2.alloc (.cells #[.slice a2 gs.length c2] 26) = W3 at *
    clear hW3 hfl hb3 hok hp hc hrd hB2 hl hbp
    have p0 : W3.cell? ⟨bp, 0, none⟩ = some (.slice a2 gs.length c2) := hP3.cell 0
    have m := scopeCheck_any (c := c2) (hf3.imp (A' := fun b => b < W3.heap.size) fun b _ hl => hl) (fun _ h => h) HLN.out (fun g hg => by have := HOK.out.sz g hg; omega) (fun g hg => by have := HOK.out.pms g hg; omega) (by have := HOK.out.num; omega)
    have HF3 : Hid (Bk W3 bp 26 [.slice a2 gs.length c2] ∧ FlW W3 (fun b => b < W3.heap.size) a2 gs ∧ bp < W3.heap.size) := ⟨hP3, hf3.imp fun b _ hl => hl, hbpl⟩
    have HSD : Hid (((scP gs).1 == 0) = true → Snd gs ∧ (scP gs.reverse).1 = 0) := fun e => by
      have e0 : (scP gs).1 = 0 := by simpa using e
      have h2 := scP_rev HND.out e0
      rw [scP_lsP HND.out] at e0
      exact ⟨snd_of (lsP_no (ftP_why gs) e0), h2⟩
    obtain ⟨n, hn⟩ : ∃ n, n = gs.length := ⟨_, rfl⟩
    rw [← hn] at p0 m
    have HN : Hid (n = gs.length) := hn
    have hfl := fun w => fld06 (scP gs).1 (scP gs).2 w
    clear hP3 hf3 hbpl hn
    generalize hy : (scP gs).1 = y at *
    generalize hz : (scP gs).2 = z at *
    clear hy hz
    go_upto_region 6 with fail
    go_wp2_with fail
    refine m.mono ?_
    rintro e w4 ⟨rfl, hb4⟩
    have hf := hfl w4
    clear hfl m p0
    have hb5 := below_alloc w4 (.cells #[.slice none 0 0] 26)
    have hT5 := Bk.new w4 26 #[.slice none 0 0]
    have hb45 := Below.thn hb4 hb5
    have hw34 := hb4.size
    go_upto_region 8 with fail
    obtain ⟨bt, hbt⟩ : ∃ b, b = w4.heap.size := ⟨_, rfl⟩
    have hbt1 : W3.heap.size ≤ bt := by omega
    rw [← hbt] at hT5 ⊢
    clear hbt hf
    generalize hW5 : w4.alloc (.cells #[.slice none 0 0] 26) = W5 at *
    have HW : Hid (Bk W5 bt 26 [.slice none 0 0] ∧ Below W3.heap.size W3 W5 ∧ W3.heap.size ≤ bt) := ⟨hT5, hb45, hbt1⟩
    clear hW5 hT5 hb45 hb5 hb4 hbt1 hw34
    go_cut [7] (fun v wx => v = .slice none 0 0 ∧ Hid (wx = W5))
    case first =>
      go_wp2_with fail
      go_meet
      case rel => exact ⟨rfl, rfl⟩
    case rest =>
      rename_i K0 h0
      obtain ⟨rfl, hwc⟩ := hcut
      rw [hwc.out]
      clear hwc
      refine h0 _ _ ?_
      have hws := HB3.out.size
      have hb := HW.out.2.1
      have hb1 := HW.out.2.2
      exact sound_b w W5 _ rfl HLL.out ht (Below.thn HB3.out hb) (by omega) (HF3.out.1.up hb) (by have := HF3.out.2.2; omega) HW.out.1 ((HF3.out.2.1.up hb).imp fun b h _ => by have h : b < W3.heap.size := h; omega) HOK.out HLN.out (fun e => (HSD.out e).1) (fun e => (HSD.out e).2)
  · have hb3 := below_alloc w2 (.cells #[.slice none 0 0] 26)
    have HB3 : Hid (Below w.heap.size w _) := Below.thn hB2 hb3
    clear hB2
    go_wp2_with fail
    go_ret
    exact ⟨rfl, HB3.out⟩
end Go.Proofs.YtaneibojiamjeaaGreatDoor
