/-
  The walk of LangParses.
-/
import Derived.Test.YtflennpocpbbpaaGreatDoorYx
import Derived.Test.YtflennpocpbbpaaGreatDoorUM
import Derived.Test.YtflennpocpbbpaaGreatDoorUV
import Derived.Test.YtflennpocpbbpaaGreatDoorBo
import Derived.Test.YtflennpocpbbpaaGreatDoorBm
import Derived.Test.YtflennpocpbbpaaGreatDoorSe
import Derived.Deep.RegionHeld3
import Derived.Deep.DeepCutAuto
namespace Go.Proofs.YtflennpocpbbpaaGreatDoor
open Go.RowKit
set_option maxRecDepth 100000

theorem params_len (M : Nat → Mk) (L : Lm) : ∀ f acc k ps j, paramsL M L f acc k = .ok ps j → ps.length + k ≤ acc.length + j := by
  intro f
  induction f with
  | zero => intro acc k ps j h; cases h
  | succ f ih =>
    intro acc k ps j h
    rw [paramsL] at h
    split at h
    · obtain ⟨a, k1, h1, h2⟩ := bind_eq.1 h
      have hg : k + 1 ≤ k1 := by
        unfold paramP at h1
        obtain ⟨x, i1, g1, h1⟩ := bind_eq.1 h1
        obtain ⟨t, i2, g2, h1⟩ := bind_eq.1 h1
        cases h1
        have e1 := (nameOf_ok g1).1
        have a1 : k + 1 ≤ i1 := by have := ge_name M (k + 1); rw [e1] at this; exact this
        have a2 : i1 ≤ k1 := by have := ge_type M i1; rw [g2] at this; exact this
        omega
      have := ih _ _ _ _ h2
      simp at this
      omega
    · obtain ⟨u, k1, h1, h2⟩ := bind_eq.1 h
      cases h2
      have := (must_ok h1).2
      omega
theorem def_pms {M : Nat → Mk} {L : Lm} {f n k : Nat} {g : Fn1} {j : Nat} (h : defP M L f n k = .ok g j) : g.pms.length ≤ j := by
  unfold defP at h
  obtain ⟨x, k1, h1, h⟩ := bind_eq.1 h
  obtain ⟨ps, k2, h2, h⟩ := bind_eq.1 h
  obtain ⟨_, k3, h3, h⟩ := bind_eq.1 h
  obtain ⟨t, k4, h4, h⟩ := bind_eq.1 h
  obtain ⟨_, k5, h5, h⟩ := bind_eq.1 h
  obtain ⟨b, k6, h6, h⟩ := bind_eq.1 h
  obtain ⟨_, k7, h7, h⟩ := bind_eq.1 h
  cases h
  have a3 : k2 ≤ k3 := by have := ge_must M [58] k2; rw [h3] at this; exact this
  have a4 : k3 ≤ k4 := by have := ge_type M k3; rw [h4] at this; exact this
  have a5 : k4 ≤ k5 := by have := ge_must M [61] k4; rw [h5] at this; exact this
  have a6 : k5 ≤ k6 := by have := (allGe M L f).exprP 0 k5; rw [h6] at this; exact this
  have a7 : k6 ≤ j := by have := ge_must M [59] k6; rw [h7] at this; exact this
  have a2 : ps.length ≤ k2 := by
    unfold paramsP at h2
    obtain ⟨_, i1, g1, h2⟩ := bind_eq.1 h2
    split at h2
    · cases h2
      simp
    · obtain ⟨a, i2, g2, h2⟩ := bind_eq.1 h2
      have e := (must_ok g1).2
      have := params_len M L f _ _ _ _ h2
      have hg : i1 ≤ i2 := by
        unfold paramP at g2
        obtain ⟨x, i3, g3, g2⟩ := bind_eq.1 g2
        obtain ⟨t, i4, g4, g2⟩ := bind_eq.1 g2
        cases g2
        have e1 := (nameOf_ok g3).1
        have a1 : i1 ≤ i3 := by have := ge_name M i1; rw [e1] at this; exact this
        have a2 : i3 ≤ i2 := by have := ge_type M i3; rw [g4] at this; exact this
        omega
      simp at this
      omega
  show ps.length ≤ j
  omega
theorem prog_len (M : Nat → Mk) (L : Lm) : ∀ f acc k gs j, progL M L f acc k = .ok gs j → k + 1 ≤ j ∧ gs.length + k ≤ acc.length + j ∧ ((∀ g ∈ acc, g.pms.length ≤ j) → ∀ g ∈ gs, g.pms.length ≤ j) := by
  intro f
  induction f with
  | zero => intro acc k gs j h; cases h
  | succ f ih =>
    intro acc k gs j h
    rw [progL] at h
    obtain ⟨g, k1, h1, h2⟩ := bind_eq.1 h
    have hg := def_gt h1
    have hp := def_pms h1
    split at h2
    · cases h2
      refine ⟨hg, by simp; omega, fun ha x hx => ?_⟩
      rcases List.mem_append.1 hx with hx | hx
      · exact ha x hx
      · obtain rfl := List.mem_singleton.1 hx
        exact hp
    · obtain ⟨i1, i2, i3⟩ := ih _ _ _ _ h2
      refine ⟨by omega, by simp at i2; omega, fun ha => i3 fun x hx => ?_⟩
      rcases List.mem_append.1 hx with hx | hx
      · exact ha x hx
      · obtain rfl := List.mem_singleton.1 hx
        omega
/-- Two answers to one text under one set of limits: one fault, one program. -/
theorem paV_pair {l : List UInt8} {lt lf la ln : Int} {f B B' : Nat} {w w' : World} {ao ao' : Option Addr} {n n' c c' : Nat} {y y' a a' : Int} (hf : ∀ ms, cut rdN l 0 = .ok ms → progL (mf ms) ⟨max lf 0, max la 0, max ln 0⟩ f [] 0 ≠ .out) (hff : 12 * (l.length + 1) + 9 ≤ f)
    (h : paV l lt lf la ln f B (.returned (.tuple #[.agg #[.slice ao n c], .agg #[.int .i64 y, .int .i64 a]])) w) (h' : paV l lt lf la ln f B' (.returned (.tuple #[.agg #[.slice ao' n' c'], .agg #[.int .i64 y', .int .i64 a']])) w') :
    y = y' ∧ a = a' ∧ ∃ gs : List Fn1, n = gs.length ∧ n' = gs.length ∧ FlW w (fun b => B ≤ b) ao gs ∧ FlW w' (fun b => B' ≤ b) ao' gs ∧ (∀ g ∈ gs, szE g.body ≤ 1073741824) ∧ (∀ g ∈ gs, g.pms.length ≤ 9223372036854775807) ∧ gs.length ≤ 9223372036854775807 := by
  have hno : ∀ {y1 a1 y2 a2 : Int}, Ending.returned (.tuple #[.agg #[.slice ao n c], .agg #[.int .i64 y, .int .i64 a]]) = .returned (noneV y1 a1) → Ending.returned (.tuple #[.agg #[.slice ao' n' c'], .agg #[.int .i64 y', .int .i64 a']]) = .returned (noneV y2 a2) → y1 = y2 → a1 = a2 →
      y = y' ∧ a = a' ∧ ∃ gs : List Fn1, n = gs.length ∧ n' = gs.length ∧ FlW w (fun b => B ≤ b) ao gs ∧ FlW w' (fun b => B' ≤ b) ao' gs ∧ (∀ g ∈ gs, szE g.body ≤ 1073741824) ∧ (∀ g ∈ gs, g.pms.length ≤ 9223372036854775807) ∧ gs.length ≤ 9223372036854775807 := by
    intro y1 a1 y2 a2 e1 e2 e3 e4
    unfold noneV at e1 e2
    cases e1
    cases e2
    exact ⟨e3, e4, [], rfl, rfl, .inl rfl, .inl rfl, by simp, by simp, by simp⟩
  unfold paV at h h'
  by_cases hc : cT lt < l.length
  · rw [if_pos hc] at h h'
    exact hno h h' rfl rfl
  · rw [if_neg hc] at h h'
    cases hcu : cut rdN l 0 with
    | bad k =>
      rw [hcu] at h h'
      exact hno h h' rfl rfl
    | ok ms =>
      rw [hcu] at h h'
      dsimp only at h h'
      cases hp : progL (mf ms) ⟨max lf 0, max la 0, max ln 0⟩ f [] 0 with
      | out => exact absurd hp (hf ms hcu)
      | bad y k =>
        rw [hp] at h h'
        exact hno h h' rfl rfl
      | ok gs j =>
        rw [hp] at h h'
        obtain ⟨ao1, c1, e1, hfl, hle⟩ := h
        obtain ⟨ao2, c2, e2, hfl', hle'⟩ := h'
        cases e1
        cases e2
        have hrow := cut_row rdN _ _ _ hcu
        have hfew := cut_few _ _ _ hcu
        have hl : (l.length : Int) ≤ 32768 := by unfold cT at hc; omega
        have hjn : 0 + 1 ≤ j ∧ j < ms.length := by
          have := gd_prog (mf ms) ⟨max lf 0, max la 0, max ln 0⟩ hrow.ends f [] 0 hrow.pos (by omega)
          rw [hp] at this
          exact this
        obtain ⟨-, hgl, hpj⟩ := prog_len _ _ _ _ _ _ _ hp
        simp only [List.length_nil] at hgl
        refine ⟨rfl, rfl, gs, rfl, rfl, hfl, hfl', fun g hg => ?_, fun g hg => ?_, by omega⟩
        · have := sz_prog (mf ms) ⟨max lf 0, max la 0, max ln 0⟩ _ _ _ _ _ hp (by simp) g hg
          omega
        · have := hpj (by simp) g hg
          omega

set_option maxHeartbeats 4000000 in
theorem one4_any (ao : Option Addr) (cap : Nat) (l : List UInt8) (hcap : l.length ≤ cap) (hn : ao = none → cap = 0) (hlen : l.length ≤ 140737488355328) (lt lf la ln : Int) (hln : ln ≤ 9223372036854775807) (w : World) (hG : Gl w) (hE : Env w) (hT : Bd w ao l) :
    Calls Tryz.prog 11 #[.slice ao l.length cap, .agg #[.int .i64 lt, .int .i64 lf, .int .i64 la, .int .i64 ln]] w fun e w' => e = .returned (.bool true) ∧ Below w.heap.size w w' := by
  obtain ⟨F, hFd⟩ : ∃ F, F = 12 * (l.length + 1) + 9 := ⟨_, rfl⟩
  have hff : 12 * (l.length + 1) + 9 ≤ F := by omega
  clear hFd
  have hfu : ∀ ms, cut rdN l 0 = .ok ms → progL (mf ms) ⟨max lf 0, max la 0, max ln 0⟩ F [] 0 ≠ .out := fuel_ok l _ F hff
  have hb0 := below_alloc w (.cells #[.int .i64 lt, .int .i64 lf, .int .i64 la, .int .i64 ln] 24)
  have hL0 : Bk (w.alloc (.cells #[.int .i64 lt, .int .i64 lf, .int .i64 la, .int .i64 ln] 24)) w.heap.size 24 [.int .i64 lt, .int .i64 lf, .int .i64 la, .int .i64 ln] := Bk.new w 24 #[.int .i64 lt, .int .i64 lf, .int .i64 la, .int .i64 ln]
  have hG0 := hG.up hb0
  have hE0 := env_keep hE hb0
  have hT0 := hT.up hb0
  obtain ⟨W0, hW0⟩ : ∃ W0, W0 = w.alloc (.cells #[.int .i64 lt, .int .i64 lf, .int .i64 la, .int .i64 ln] 24) := ⟨_, rfl⟩
  rw [← hW0] at hL0 hG0 hE0 hT0 hb0
  go_enter Tryz.func11, Tryz.ntmps11
  go_upto_region 1 with fail
  rw [← hW0]
  clear hW0
  have lL := hL0.lt
  have hcp : ∀ W, Below W0.heap.size W0 W → Calls Tryz.prog 16 #[.slice ao l.length cap] W fun e w' => ∃ v, e = .returned v ∧ Own w' W.heap.size v l ∧ Below W.heap.size W w' := fun W hb => copied4L_any ao cap l hn hlen W (hT0.up hb)
  have HS : Hid (∀ W, Below W0.heap.size W0 W → W.cell? ⟨w.heap.size, 0, none⟩ = some (.int .i64 lt) ∧ W.cell? ⟨w.heap.size, 1, none⟩ = some (.int .i64 lf) ∧ W.cell? ⟨w.heap.size, 2, none⟩ = some (.int .i64 la) ∧ W.cell? ⟨w.heap.size, 3, none⟩ = some (.int .i64 ln)) := fun W hb => (hL0.up hb).four
  have b_n : Below W0.heap.size W0 (World.drew W0) := (Below.refl _ W0).drew
  have b_P : Below W0.heap.size W0 (World.drew (W0.alloc (.cells #[.slice none 0 0] 42))) := (bal (o := (.cells #[.slice none 0 0] 42)) (Below.refl _ W0)).drew
  have kP_P : Bk (World.drew (W0.alloc (.cells #[.slice none 0 0] 42))) W0.heap.size 42 [.slice none 0 0] := (show Bk (W0.alloc (.cells #[.slice none 0 0] 42)) W0.heap.size 42 [.slice none 0 0] from Bk.new W0 42 #[.slice none 0 0])
  have b_F : Below W0.heap.size W0 (World.drew (W0.alloc (.cells #[.int .i64 0, .int .i64 0] 31))) := (bal (o := (.cells #[.int .i64 0, .int .i64 0] 31)) (Below.refl _ W0)).drew
  have kF_F : Bk (World.drew (W0.alloc (.cells #[.int .i64 0, .int .i64 0] 31))) W0.heap.size 31 [.int .i64 0, .int .i64 0] := (show Bk (W0.alloc (.cells #[.int .i64 0, .int .i64 0] 31)) W0.heap.size 31 [.int .i64 0, .int .i64 0] from Bk.new W0 31 #[.int .i64 0, .int .i64 0])
  have b_PF : Below W0.heap.size W0 (World.drew ((W0.alloc (.cells #[.slice none 0 0] 42)).alloc (.cells #[.int .i64 0, .int .i64 0] 31))) := (bal (o := (.cells #[.int .i64 0, .int .i64 0] 31)) (bal (o := (.cells #[.slice none 0 0] 42)) (Below.refl _ W0))).drew
  have kP_PF : Bk (World.drew ((W0.alloc (.cells #[.slice none 0 0] 42)).alloc (.cells #[.int .i64 0, .int .i64 0] 31))) W0.heap.size 42 [.slice none 0 0] := (show Bk ((W0.alloc (.cells #[.slice none 0 0] 42)).alloc (.cells #[.int .i64 0, .int .i64 0] 31)) W0.heap.size 42 [.slice none 0 0] from (Bk.new W0 42 #[.slice none 0 0]).up (below_alloc _ (.cells #[.int .i64 0, .int .i64 0] 31)))
  have kF_PF : Bk (World.drew ((W0.alloc (.cells #[.slice none 0 0] 42)).alloc (.cells #[.int .i64 0, .int .i64 0] 31))) (W0.heap.size + 1) 31 [.int .i64 0, .int .i64 0] := (show Bk ((W0.alloc (.cells #[.slice none 0 0] 42)).alloc (.cells #[.int .i64 0, .int .i64 0] 31)) (W0.heap.size + 1) 31 [.int .i64 0, .int .i64 0] from Bk.newAt (w := (W0.alloc (.cells #[.slice none 0 0] 42))) (n := W0.heap.size + 1) 31 #[.int .i64 0, .int .i64 0] (by simp))
  have b_FP : Below W0.heap.size W0 (World.drew ((W0.alloc (.cells #[.int .i64 0, .int .i64 0] 31)).alloc (.cells #[.slice none 0 0] 42))) := (bal (o := (.cells #[.slice none 0 0] 42)) (bal (o := (.cells #[.int .i64 0, .int .i64 0] 31)) (Below.refl _ W0))).drew
  have kF_FP : Bk (World.drew ((W0.alloc (.cells #[.int .i64 0, .int .i64 0] 31)).alloc (.cells #[.slice none 0 0] 42))) W0.heap.size 31 [.int .i64 0, .int .i64 0] := (show Bk ((W0.alloc (.cells #[.int .i64 0, .int .i64 0] 31)).alloc (.cells #[.slice none 0 0] 42)) W0.heap.size 31 [.int .i64 0, .int .i64 0] from (Bk.new W0 31 #[.int .i64 0, .int .i64 0]).up (below_alloc _ (.cells #[.slice none 0 0] 42)))
  have kP_FP : Bk (World.drew ((W0.alloc (.cells #[.int .i64 0, .int .i64 0] 31)).alloc (.cells #[.slice none 0 0] 42))) (W0.heap.size + 1) 42 [.slice none 0 0] := (show Bk ((W0.alloc (.cells #[.int .i64 0, .int .i64 0] 31)).alloc (.cells #[.slice none 0 0] 42)) (W0.heap.size + 1) 42 [.slice none 0 0] from Bk.newAt (w := (W0.alloc (.cells #[.int .i64 0, .int .i64 0] 31))) (n := W0.heap.size + 1) 42 #[.slice none 0 0] (by simp))
  go_cut [5, 6] (fun p q wx => PF2 W0 l lt lf la ln F p q wx)
  case first =>
    go_region_held3 (fun W => W.cell? ⟨w.heap.size, 0, none⟩ = some (.int .i64 lt) ∧ W.cell? ⟨w.heap.size, 1, none⟩ = some (.int .i64 lf) ∧ W.cell? ⟨w.heap.size, 2, none⟩ = some (.int .i64 la) ∧ W.cell? ⟨w.heap.size, 3, none⟩ = some (.int .i64 ln)) ((refine HS _ ?_; repeat' (first | (with_reducible assumption) | refine bal ?_ | refine bst ?_ (by first | omega | (simp at *; omega)) | refine Below.drew ?_))) (first
      | (go_at_call 16; (with_reducible refine Calls.mono (hcp (World.drew W0) b_n) ?_); rintro e w9 ⟨v9, rfl, ho9, hb9⟩; obtain ⟨ao9, c9, rfl, hbd9, hcc9, -, -⟩ := Own.bd ho9; have B9 := Below.thn b_n hb9; have c_n_n : Below W0.heap.size W0 w9 := B9; have q_n_n := langParse_all ao9 c9 l hcc9 lt lf la ln hln w9 (hG0.up c_n_n) (env_keep hE0 c_n_n) (hbd9.up (Below.refl _ w9)) F hfu; have c_n_P : Below W0.heap.size W0 (w9.alloc (.cells #[.slice none 0 0] 42)) := bal (o := (.cells #[.slice none 0 0] 42)) (B9); have q_n_P := langParse_all ao9 c9 l hcc9 lt lf la ln hln (w9.alloc (.cells #[.slice none 0 0] 42)) (hG0.up c_n_P) (env_keep hE0 c_n_P) (hbd9.up (bal (o := (.cells #[.slice none 0 0] 42)) (Below.refl _ w9))) F hfu; have c_n_F : Below W0.heap.size W0 (w9.alloc (.cells #[.int .i64 0, .int .i64 0] 31)) := bal (o := (.cells #[.int .i64 0, .int .i64 0] 31)) (B9); have q_n_F := langParse_all ao9 c9 l hcc9 lt lf la ln hln (w9.alloc (.cells #[.int .i64 0, .int .i64 0] 31)) (hG0.up c_n_F) (env_keep hE0 c_n_F) (hbd9.up (bal (o := (.cells #[.int .i64 0, .int .i64 0] 31)) (Below.refl _ w9))) F hfu; have c_n_PF : Below W0.heap.size W0 ((w9.alloc (.cells #[.slice none 0 0] 42)).alloc (.cells #[.int .i64 0, .int .i64 0] 31)) := bal (o := (.cells #[.int .i64 0, .int .i64 0] 31)) (bal (o := (.cells #[.slice none 0 0] 42)) (B9)); have q_n_PF := langParse_all ao9 c9 l hcc9 lt lf la ln hln ((w9.alloc (.cells #[.slice none 0 0] 42)).alloc (.cells #[.int .i64 0, .int .i64 0] 31)) (hG0.up c_n_PF) (env_keep hE0 c_n_PF) (hbd9.up (bal (o := (.cells #[.int .i64 0, .int .i64 0] 31)) (bal (o := (.cells #[.slice none 0 0] 42)) (Below.refl _ w9)))) F hfu; have c_n_FP : Below W0.heap.size W0 ((w9.alloc (.cells #[.int .i64 0, .int .i64 0] 31)).alloc (.cells #[.slice none 0 0] 42)) := bal (o := (.cells #[.slice none 0 0] 42)) (bal (o := (.cells #[.int .i64 0, .int .i64 0] 31)) (B9)); have q_n_FP := langParse_all ao9 c9 l hcc9 lt lf la ln hln ((w9.alloc (.cells #[.int .i64 0, .int .i64 0] 31)).alloc (.cells #[.slice none 0 0] 42)) (hG0.up c_n_FP) (env_keep hE0 c_n_FP) (hbd9.up (bal (o := (.cells #[.slice none 0 0] 42)) (bal (o := (.cells #[.int .i64 0, .int .i64 0] 31)) (Below.refl _ w9)))) F hfu)
      | (go_at_call 14; (with_reducible refine Calls.mono q_n_n ?_); rintro e wp ⟨hbp, hpp⟩; obtain ⟨ao1, n1, cc1, y1, a1, rfl⟩ := paV_shape hpp hfu; have Bp := Below.thn c_n_n hbp; have hzp : w9.heap.size ≤ wp.heap.size := Nat.le_trans (show Below w9.heap.size w9 w9 from Below.refl _ w9).size hbp.size; have hz9 := hb9.size; have hBW := c_n_n.size)
      | (go_at_call 14; (with_reducible refine Calls.mono q_n_P ?_); rintro e wp ⟨hbp, hpp⟩; obtain ⟨ao1, n1, cc1, y1, a1, rfl⟩ := paV_shape hpp hfu; have Bp := Below.thn c_n_P hbp; have hzp : w9.heap.size ≤ wp.heap.size := Nat.le_trans (show Below w9.heap.size w9 (w9.alloc (.cells #[.slice none 0 0] 42)) from bal (o := (.cells #[.slice none 0 0] 42)) (Below.refl _ w9)).size hbp.size; have hz9 := hb9.size; have hBW := c_n_P.size; have P2 := Bk.new w9 42 #[.slice none 0 0]; have Pp := P2.up hbp; have gPW : W0.heap.size ≤ w9.heap.size := B9.size; have pcp : wp.cell? ⟨w9.heap.size, 0, none⟩ = some (.slice none 0 0) := Pp.cell 0; have pzp := Pp.frz 0; have pan1 := Nat.ne_of_lt Pp.lt; have pan2 := Ne.symm pan1; have pa0 := fun o => (Pp.up (below_alloc wp o)).cell 0; have paz0 := fun o => (Pp.up (below_alloc wp o)).frz 0)
      | (go_at_call 14; (with_reducible refine Calls.mono q_n_F ?_); rintro e wp ⟨hbp, hpp⟩; obtain ⟨ao1, n1, cc1, y1, a1, rfl⟩ := paV_shape hpp hfu; have Bp := Below.thn c_n_F hbp; have hzp : w9.heap.size ≤ wp.heap.size := Nat.le_trans (show Below w9.heap.size w9 (w9.alloc (.cells #[.int .i64 0, .int .i64 0] 31)) from bal (o := (.cells #[.int .i64 0, .int .i64 0] 31)) (Below.refl _ w9)).size hbp.size; have hz9 := hb9.size; have hBW := c_n_F.size; have F2 := Bk.new w9 31 #[.int .i64 0, .int .i64 0]; have Fp := F2.up hbp; have gFW : W0.heap.size ≤ w9.heap.size := B9.size; have fcp : wp.cell? ⟨w9.heap.size, 0, none⟩ = some (.int .i64 0) := Fp.cell 0; have fdp : wp.cell? ⟨w9.heap.size, 1, none⟩ = some (.int .i64 0) := Fp.cell 1; have fzp := Fp.frz 0; have fyp := Fp.frz 1; have fan1 := Nat.ne_of_lt Fp.lt; have fan2 := Ne.symm fan1; have fa0 := fun o => (Fp.up (below_alloc wp o)).cell 0; have faz0 := fun o => (Fp.up (below_alloc wp o)).frz 0; have fa1 := fun o => (Fp.up (below_alloc wp o)).cell 1; have faz1 := fun o => (Fp.up (below_alloc wp o)).frz 1)
      | (go_at_call 14; (with_reducible refine Calls.mono q_n_PF ?_); rintro e wp ⟨hbp, hpp⟩; obtain ⟨ao1, n1, cc1, y1, a1, rfl⟩ := paV_shape hpp hfu; have Bp := Below.thn c_n_PF hbp; have hzp : w9.heap.size ≤ wp.heap.size := Nat.le_trans (show Below w9.heap.size w9 ((w9.alloc (.cells #[.slice none 0 0] 42)).alloc (.cells #[.int .i64 0, .int .i64 0] 31)) from bal (o := (.cells #[.int .i64 0, .int .i64 0] 31)) (bal (o := (.cells #[.slice none 0 0] 42)) (Below.refl _ w9))).size hbp.size; have hz9 := hb9.size; have hBW := c_n_PF.size; have P2 := (Bk.new w9 42 #[.slice none 0 0]).up (below_alloc _ (.cells #[.int .i64 0, .int .i64 0] 31)); have Pp := P2.up hbp; have gPW : W0.heap.size ≤ w9.heap.size := B9.size; have pcp : wp.cell? ⟨w9.heap.size, 0, none⟩ = some (.slice none 0 0) := Pp.cell 0; have pzp := Pp.frz 0; have pan1 := Nat.ne_of_lt Pp.lt; have pan2 := Ne.symm pan1; have pa0 := fun o => (Pp.up (below_alloc wp o)).cell 0; have paz0 := fun o => (Pp.up (below_alloc wp o)).frz 0; have F2 := Bk.newAt (w := (w9.alloc (.cells #[.slice none 0 0] 42))) (n := w9.heap.size + 1) 31 #[.int .i64 0, .int .i64 0] (by simp); have Fp := F2.up hbp; have gFW : W0.heap.size ≤ (w9.heap.size + 1) := Nat.le_succ_of_le B9.size; have fcp : wp.cell? ⟨(w9.heap.size + 1), 0, none⟩ = some (.int .i64 0) := Fp.cell 0; have fdp : wp.cell? ⟨(w9.heap.size + 1), 1, none⟩ = some (.int .i64 0) := Fp.cell 1; have fzp := Fp.frz 0; have fyp := Fp.frz 1; have fan1 := Nat.ne_of_lt Fp.lt; have fan2 := Ne.symm fan1; have fa0 := fun o => (Fp.up (below_alloc wp o)).cell 0; have faz0 := fun o => (Fp.up (below_alloc wp o)).frz 0; have fa1 := fun o => (Fp.up (below_alloc wp o)).cell 1; have faz1 := fun o => (Fp.up (below_alloc wp o)).frz 1)
      | (go_at_call 14; (with_reducible refine Calls.mono q_n_FP ?_); rintro e wp ⟨hbp, hpp⟩; obtain ⟨ao1, n1, cc1, y1, a1, rfl⟩ := paV_shape hpp hfu; have Bp := Below.thn c_n_FP hbp; have hzp : w9.heap.size ≤ wp.heap.size := Nat.le_trans (show Below w9.heap.size w9 ((w9.alloc (.cells #[.int .i64 0, .int .i64 0] 31)).alloc (.cells #[.slice none 0 0] 42)) from bal (o := (.cells #[.slice none 0 0] 42)) (bal (o := (.cells #[.int .i64 0, .int .i64 0] 31)) (Below.refl _ w9))).size hbp.size; have hz9 := hb9.size; have hBW := c_n_FP.size; have F2 := (Bk.new w9 31 #[.int .i64 0, .int .i64 0]).up (below_alloc _ (.cells #[.slice none 0 0] 42)); have Fp := F2.up hbp; have gFW : W0.heap.size ≤ w9.heap.size := B9.size; have fcp : wp.cell? ⟨w9.heap.size, 0, none⟩ = some (.int .i64 0) := Fp.cell 0; have fdp : wp.cell? ⟨w9.heap.size, 1, none⟩ = some (.int .i64 0) := Fp.cell 1; have fzp := Fp.frz 0; have fyp := Fp.frz 1; have fan1 := Nat.ne_of_lt Fp.lt; have fan2 := Ne.symm fan1; have fa0 := fun o => (Fp.up (below_alloc wp o)).cell 0; have faz0 := fun o => (Fp.up (below_alloc wp o)).frz 0; have fa1 := fun o => (Fp.up (below_alloc wp o)).cell 1; have faz1 := fun o => (Fp.up (below_alloc wp o)).frz 1; have P2 := Bk.newAt (w := (w9.alloc (.cells #[.int .i64 0, .int .i64 0] 31))) (n := w9.heap.size + 1) 42 #[.slice none 0 0] (by simp); have Pp := P2.up hbp; have gPW : W0.heap.size ≤ (w9.heap.size + 1) := Nat.le_succ_of_le B9.size; have pcp : wp.cell? ⟨(w9.heap.size + 1), 0, none⟩ = some (.slice none 0 0) := Pp.cell 0; have pzp := Pp.frz 0; have pan1 := Nat.ne_of_lt Pp.lt; have pan2 := Ne.symm pan1; have pa0 := fun o => (Pp.up (below_alloc wp o)).cell 0; have paz0 := fun o => (Pp.up (below_alloc wp o)).frz 0)
      | (go_at_call 16; (with_reducible refine Calls.mono (hcp (World.drew (W0.alloc (.cells #[.slice none 0 0] 42))) b_P) ?_); rintro e w9 ⟨v9, rfl, ho9, hb9⟩; obtain ⟨ao9, c9, rfl, hbd9, hcc9, -, -⟩ := Own.bd ho9; have B9 := Below.thn b_P hb9; have P9 := kP_P.up hb9; have pc9 : w9.cell? ⟨W0.heap.size, 0, none⟩ = some (.slice none 0 0) := P9.cell 0; have pz9 := P9.frz 0; have c_P_n : Below W0.heap.size W0 w9 := B9; have q_P_n := langParse_all ao9 c9 l hcc9 lt lf la ln hln w9 (hG0.up c_P_n) (env_keep hE0 c_P_n) (hbd9.up (Below.refl _ w9)) F hfu; have c_P_F : Below W0.heap.size W0 (w9.alloc (.cells #[.int .i64 0, .int .i64 0] 31)) := bal (o := (.cells #[.int .i64 0, .int .i64 0] 31)) (B9); have q_P_F := langParse_all ao9 c9 l hcc9 lt lf la ln hln (w9.alloc (.cells #[.int .i64 0, .int .i64 0] 31)) (hG0.up c_P_F) (env_keep hE0 c_P_F) (hbd9.up (bal (o := (.cells #[.int .i64 0, .int .i64 0] 31)) (Below.refl _ w9))) F hfu)
      | (go_at_call 14; (with_reducible refine Calls.mono q_P_n ?_); rintro e wp ⟨hbp, hpp⟩; obtain ⟨ao1, n1, cc1, y1, a1, rfl⟩ := paV_shape hpp hfu; have Bp := Below.thn c_P_n hbp; have hzp : w9.heap.size ≤ wp.heap.size := Nat.le_trans (show Below w9.heap.size w9 w9 from Below.refl _ w9).size hbp.size; have hz9 := hb9.size; have hBW := c_P_n.size; have P2 := P9; have Pp := P2.up hbp; have gPW : W0.heap.size ≤ W0.heap.size := Nat.le_refl _; have pcp : wp.cell? ⟨W0.heap.size, 0, none⟩ = some (.slice none 0 0) := Pp.cell 0; have pzp := Pp.frz 0; have pan1 := Nat.ne_of_lt Pp.lt; have pan2 := Ne.symm pan1; have pa0 := fun o => (Pp.up (below_alloc wp o)).cell 0; have paz0 := fun o => (Pp.up (below_alloc wp o)).frz 0)
      | (go_at_call 14; (with_reducible refine Calls.mono q_P_F ?_); rintro e wp ⟨hbp, hpp⟩; obtain ⟨ao1, n1, cc1, y1, a1, rfl⟩ := paV_shape hpp hfu; have Bp := Below.thn c_P_F hbp; have hzp : w9.heap.size ≤ wp.heap.size := Nat.le_trans (show Below w9.heap.size w9 (w9.alloc (.cells #[.int .i64 0, .int .i64 0] 31)) from bal (o := (.cells #[.int .i64 0, .int .i64 0] 31)) (Below.refl _ w9)).size hbp.size; have hz9 := hb9.size; have hBW := c_P_F.size; have P2 := (P9).up (below_alloc _ (.cells #[.int .i64 0, .int .i64 0] 31)); have Pp := P2.up hbp; have gPW : W0.heap.size ≤ W0.heap.size := Nat.le_refl _; have pcp : wp.cell? ⟨W0.heap.size, 0, none⟩ = some (.slice none 0 0) := Pp.cell 0; have pzp := Pp.frz 0; have pan1 := Nat.ne_of_lt Pp.lt; have pan2 := Ne.symm pan1; have pa0 := fun o => (Pp.up (below_alloc wp o)).cell 0; have paz0 := fun o => (Pp.up (below_alloc wp o)).frz 0; have F2 := Bk.new w9 31 #[.int .i64 0, .int .i64 0]; have Fp := F2.up hbp; have gFW : W0.heap.size ≤ w9.heap.size := B9.size; have fcp : wp.cell? ⟨w9.heap.size, 0, none⟩ = some (.int .i64 0) := Fp.cell 0; have fdp : wp.cell? ⟨w9.heap.size, 1, none⟩ = some (.int .i64 0) := Fp.cell 1; have fzp := Fp.frz 0; have fyp := Fp.frz 1; have fan1 := Nat.ne_of_lt Fp.lt; have fan2 := Ne.symm fan1; have fa0 := fun o => (Fp.up (below_alloc wp o)).cell 0; have faz0 := fun o => (Fp.up (below_alloc wp o)).frz 0; have fa1 := fun o => (Fp.up (below_alloc wp o)).cell 1; have faz1 := fun o => (Fp.up (below_alloc wp o)).frz 1; have pf1 := Nat.ne_of_lt P9.lt; have pf2 := Ne.symm pf1)
      | (go_at_call 16; (with_reducible refine Calls.mono (hcp (World.drew (W0.alloc (.cells #[.int .i64 0, .int .i64 0] 31))) b_F) ?_); rintro e w9 ⟨v9, rfl, ho9, hb9⟩; obtain ⟨ao9, c9, rfl, hbd9, hcc9, -, -⟩ := Own.bd ho9; have B9 := Below.thn b_F hb9; have F9 := kF_F.up hb9; have fc9 : w9.cell? ⟨W0.heap.size, 0, none⟩ = some (.int .i64 0) := F9.cell 0; have fd9 : w9.cell? ⟨W0.heap.size, 1, none⟩ = some (.int .i64 0) := F9.cell 1; have fz9 := F9.frz 0; have fy9 := F9.frz 1; have c_F_n : Below W0.heap.size W0 w9 := B9; have q_F_n := langParse_all ao9 c9 l hcc9 lt lf la ln hln w9 (hG0.up c_F_n) (env_keep hE0 c_F_n) (hbd9.up (Below.refl _ w9)) F hfu; have c_F_P : Below W0.heap.size W0 (w9.alloc (.cells #[.slice none 0 0] 42)) := bal (o := (.cells #[.slice none 0 0] 42)) (B9); have q_F_P := langParse_all ao9 c9 l hcc9 lt lf la ln hln (w9.alloc (.cells #[.slice none 0 0] 42)) (hG0.up c_F_P) (env_keep hE0 c_F_P) (hbd9.up (bal (o := (.cells #[.slice none 0 0] 42)) (Below.refl _ w9))) F hfu)
      | (go_at_call 14; (with_reducible refine Calls.mono q_F_n ?_); rintro e wp ⟨hbp, hpp⟩; obtain ⟨ao1, n1, cc1, y1, a1, rfl⟩ := paV_shape hpp hfu; have Bp := Below.thn c_F_n hbp; have hzp : w9.heap.size ≤ wp.heap.size := Nat.le_trans (show Below w9.heap.size w9 w9 from Below.refl _ w9).size hbp.size; have hz9 := hb9.size; have hBW := c_F_n.size; have F2 := F9; have Fp := F2.up hbp; have gFW : W0.heap.size ≤ W0.heap.size := Nat.le_refl _; have fcp : wp.cell? ⟨W0.heap.size, 0, none⟩ = some (.int .i64 0) := Fp.cell 0; have fdp : wp.cell? ⟨W0.heap.size, 1, none⟩ = some (.int .i64 0) := Fp.cell 1; have fzp := Fp.frz 0; have fyp := Fp.frz 1; have fan1 := Nat.ne_of_lt Fp.lt; have fan2 := Ne.symm fan1; have fa0 := fun o => (Fp.up (below_alloc wp o)).cell 0; have faz0 := fun o => (Fp.up (below_alloc wp o)).frz 0; have fa1 := fun o => (Fp.up (below_alloc wp o)).cell 1; have faz1 := fun o => (Fp.up (below_alloc wp o)).frz 1)
      | (go_at_call 14; (with_reducible refine Calls.mono q_F_P ?_); rintro e wp ⟨hbp, hpp⟩; obtain ⟨ao1, n1, cc1, y1, a1, rfl⟩ := paV_shape hpp hfu; have Bp := Below.thn c_F_P hbp; have hzp : w9.heap.size ≤ wp.heap.size := Nat.le_trans (show Below w9.heap.size w9 (w9.alloc (.cells #[.slice none 0 0] 42)) from bal (o := (.cells #[.slice none 0 0] 42)) (Below.refl _ w9)).size hbp.size; have hz9 := hb9.size; have hBW := c_F_P.size; have F2 := (F9).up (below_alloc _ (.cells #[.slice none 0 0] 42)); have Fp := F2.up hbp; have gFW : W0.heap.size ≤ W0.heap.size := Nat.le_refl _; have fcp : wp.cell? ⟨W0.heap.size, 0, none⟩ = some (.int .i64 0) := Fp.cell 0; have fdp : wp.cell? ⟨W0.heap.size, 1, none⟩ = some (.int .i64 0) := Fp.cell 1; have fzp := Fp.frz 0; have fyp := Fp.frz 1; have fan1 := Nat.ne_of_lt Fp.lt; have fan2 := Ne.symm fan1; have fa0 := fun o => (Fp.up (below_alloc wp o)).cell 0; have faz0 := fun o => (Fp.up (below_alloc wp o)).frz 0; have fa1 := fun o => (Fp.up (below_alloc wp o)).cell 1; have faz1 := fun o => (Fp.up (below_alloc wp o)).frz 1; have P2 := Bk.new w9 42 #[.slice none 0 0]; have Pp := P2.up hbp; have gPW : W0.heap.size ≤ w9.heap.size := B9.size; have pcp : wp.cell? ⟨w9.heap.size, 0, none⟩ = some (.slice none 0 0) := Pp.cell 0; have pzp := Pp.frz 0; have pan1 := Nat.ne_of_lt Pp.lt; have pan2 := Ne.symm pan1; have pa0 := fun o => (Pp.up (below_alloc wp o)).cell 0; have paz0 := fun o => (Pp.up (below_alloc wp o)).frz 0; have pf1 := Nat.ne_of_lt F9.lt; have pf2 := Ne.symm pf1)
      | (go_at_call 16; (with_reducible refine Calls.mono (hcp (World.drew ((W0.alloc (.cells #[.slice none 0 0] 42)).alloc (.cells #[.int .i64 0, .int .i64 0] 31))) b_PF) ?_); rintro e w9 ⟨v9, rfl, ho9, hb9⟩; obtain ⟨ao9, c9, rfl, hbd9, hcc9, -, -⟩ := Own.bd ho9; have B9 := Below.thn b_PF hb9; have P9 := kP_PF.up hb9; have pc9 : w9.cell? ⟨W0.heap.size, 0, none⟩ = some (.slice none 0 0) := P9.cell 0; have pz9 := P9.frz 0; have F9 := kF_PF.up hb9; have fc9 : w9.cell? ⟨(W0.heap.size + 1), 0, none⟩ = some (.int .i64 0) := F9.cell 0; have fd9 : w9.cell? ⟨(W0.heap.size + 1), 1, none⟩ = some (.int .i64 0) := F9.cell 1; have fz9 := F9.frz 0; have fy9 := F9.frz 1; have c_PF_n : Below W0.heap.size W0 w9 := B9; have q_PF_n := langParse_all ao9 c9 l hcc9 lt lf la ln hln w9 (hG0.up c_PF_n) (env_keep hE0 c_PF_n) (hbd9.up (Below.refl _ w9)) F hfu)
      | (go_at_call 14; (with_reducible refine Calls.mono q_PF_n ?_); rintro e wp ⟨hbp, hpp⟩; obtain ⟨ao1, n1, cc1, y1, a1, rfl⟩ := paV_shape hpp hfu; have Bp := Below.thn c_PF_n hbp; have hzp : w9.heap.size ≤ wp.heap.size := Nat.le_trans (show Below w9.heap.size w9 w9 from Below.refl _ w9).size hbp.size; have hz9 := hb9.size; have hBW := c_PF_n.size; have P2 := P9; have Pp := P2.up hbp; have gPW : W0.heap.size ≤ W0.heap.size := Nat.le_refl _; have pcp : wp.cell? ⟨W0.heap.size, 0, none⟩ = some (.slice none 0 0) := Pp.cell 0; have pzp := Pp.frz 0; have pan1 := Nat.ne_of_lt Pp.lt; have pan2 := Ne.symm pan1; have pa0 := fun o => (Pp.up (below_alloc wp o)).cell 0; have paz0 := fun o => (Pp.up (below_alloc wp o)).frz 0; have F2 := F9; have Fp := F2.up hbp; have gFW : W0.heap.size ≤ (W0.heap.size + 1) := Nat.le_succ _; have fcp : wp.cell? ⟨(W0.heap.size + 1), 0, none⟩ = some (.int .i64 0) := Fp.cell 0; have fdp : wp.cell? ⟨(W0.heap.size + 1), 1, none⟩ = some (.int .i64 0) := Fp.cell 1; have fzp := Fp.frz 0; have fyp := Fp.frz 1; have fan1 := Nat.ne_of_lt Fp.lt; have fan2 := Ne.symm fan1; have fa0 := fun o => (Fp.up (below_alloc wp o)).cell 0; have faz0 := fun o => (Fp.up (below_alloc wp o)).frz 0; have fa1 := fun o => (Fp.up (below_alloc wp o)).cell 1; have faz1 := fun o => (Fp.up (below_alloc wp o)).frz 1)
      | (go_at_call 16; (with_reducible refine Calls.mono (hcp (World.drew ((W0.alloc (.cells #[.int .i64 0, .int .i64 0] 31)).alloc (.cells #[.slice none 0 0] 42))) b_FP) ?_); rintro e w9 ⟨v9, rfl, ho9, hb9⟩; obtain ⟨ao9, c9, rfl, hbd9, hcc9, -, -⟩ := Own.bd ho9; have B9 := Below.thn b_FP hb9; have F9 := kF_FP.up hb9; have fc9 : w9.cell? ⟨W0.heap.size, 0, none⟩ = some (.int .i64 0) := F9.cell 0; have fd9 : w9.cell? ⟨W0.heap.size, 1, none⟩ = some (.int .i64 0) := F9.cell 1; have fz9 := F9.frz 0; have fy9 := F9.frz 1; have P9 := kP_FP.up hb9; have pc9 : w9.cell? ⟨(W0.heap.size + 1), 0, none⟩ = some (.slice none 0 0) := P9.cell 0; have pz9 := P9.frz 0; have c_FP_n : Below W0.heap.size W0 w9 := B9; have q_FP_n := langParse_all ao9 c9 l hcc9 lt lf la ln hln w9 (hG0.up c_FP_n) (env_keep hE0 c_FP_n) (hbd9.up (Below.refl _ w9)) F hfu)
      | (go_at_call 14; (with_reducible refine Calls.mono q_FP_n ?_); rintro e wp ⟨hbp, hpp⟩; obtain ⟨ao1, n1, cc1, y1, a1, rfl⟩ := paV_shape hpp hfu; have Bp := Below.thn c_FP_n hbp; have hzp : w9.heap.size ≤ wp.heap.size := Nat.le_trans (show Below w9.heap.size w9 w9 from Below.refl _ w9).size hbp.size; have hz9 := hb9.size; have hBW := c_FP_n.size; have F2 := F9; have Fp := F2.up hbp; have gFW : W0.heap.size ≤ W0.heap.size := Nat.le_refl _; have fcp : wp.cell? ⟨W0.heap.size, 0, none⟩ = some (.int .i64 0) := Fp.cell 0; have fdp : wp.cell? ⟨W0.heap.size, 1, none⟩ = some (.int .i64 0) := Fp.cell 1; have fzp := Fp.frz 0; have fyp := Fp.frz 1; have fan1 := Nat.ne_of_lt Fp.lt; have fan2 := Ne.symm fan1; have fa0 := fun o => (Fp.up (below_alloc wp o)).cell 0; have faz0 := fun o => (Fp.up (below_alloc wp o)).frz 0; have fa1 := fun o => (Fp.up (below_alloc wp o)).cell 1; have faz1 := fun o => (Fp.up (below_alloc wp o)).frz 1; have P2 := P9; have Pp := P2.up hbp; have gPW : W0.heap.size ≤ (W0.heap.size + 1) := Nat.le_succ _; have pcp : wp.cell? ⟨(W0.heap.size + 1), 0, none⟩ = some (.slice none 0 0) := Pp.cell 0; have pzp := Pp.frz 0; have pan1 := Nat.ne_of_lt Pp.lt; have pan2 := Ne.symm pan1; have pa0 := fun o => (Pp.up (below_alloc wp o)).cell 0; have paz0 := fun o => (Pp.up (below_alloc wp o)).frz 0)
      | fail)
    all_goals
      go_wp2_with fail
      go_meet
      case rel => first | (with_reducible exact rel5 hpp Bp hBW P2.lt F2.lt gPW gFW Pp Fp (by first | exact pf1 | exact pf2 | omega)) | (with_reducible exact rel3 hpp Bp hBW P2.lt gPW Pp) | (with_reducible exact rel4 hpp Bp hBW F2.lt gFW Fp) | (with_reducible exact rel1 hpp Bp hBW) | (with_reducible exact rel2 hpp Bp hBW)
  case rest =>
    obtain ⟨gp, gf, ao1, n1, cc1, y1, a1, rfl, rfl, hgp, hgf, hP, hF, hB, hpa⟩ := hcut
    generalize wc = w4 at *
    clear hcp HS b_n b_P b_F b_PF b_FP kP_P kF_F kP_PF kF_PF kF_FP kP_FP
    have hL4 := hL0.up hB
    have lp := hP.lt
    have lf4 := hF.lt
    go_wp2_with (first
      | refine wpList_loadN rfl 24 (.tmp 3) rfl w.heap.size 0 rfl [.int .i64 lt, .int .i64 lf, .int .i64 la, .int .i64 ln] _ (hL4.range 0 4) Tryz.underL Tryz.infoL ?_
      | fail)
    refine (rparse_all ao cap l hcap lt lf la ln hln w4 (hT0.up hB) F hfu).mono ?_
    rintro e w5 ⟨hb5, hpb⟩
    obtain ⟨ao2, n2, cc2, y2, a2, rfl⟩ := paV_shape hpb hfu
    have hpa5 := paV_keep hpa (Nat.le_refl _) hb5.size fun b _ hl => hb5.block b hl
    obtain ⟨rfl, rfl, gs, rfl, rfl, hfl, hfl2, hsz, hpm, hgl⟩ := paV_pair hfu hff hpa5 hpb
    have q5 := below_two w5 (.cells #[.slice ao2 gs.length cc2] 42) (.cells #[.int .i64 y1, .int .i64 a1] 31)
    have hP5 := (hP.up hb5).up q5
    have hF5 := (hF.up hb5).up q5
    have hQ5 := (Bk.new w5 42 #[.slice ao2 gs.length cc2]).up (below_alloc _ (.cells #[.int .i64 y1, .int .i64 a1] 31))
    have hH5 := Bk.newAt (w := w5.alloc (.cells #[.slice ao2 gs.length cc2] 42)) (n := w5.heap.size + 1) 31 #[.int .i64 y1, .int .i64 a1] (by simp)
    have hB5 := Below.thn (Below.thn hB hb5) q5
    have hfa := hfl.up q5
    have hfb := hfl2.up q5
    have e0 := hP5.cell 0
    have e1 := hQ5.cell 0
    obtain ⟨f0, f1⟩ := Bk.two hF5
    obtain ⟨g0, g1⟩ := Bk.two (show Bk _ (w5.heap.size + 1) _ [_, _] from hH5)
    have hrf : LiR (FnR (pq true)) gs gs := LiR.refl (FnR.refl fun _ _ => rfl) gs
    clear hpa hpb hpa5
    go_wp2_with fail
    refine (same4_any true gs gs hsz hpm hgl hrf _ _ _ ao1 ao2 cc1 cc2 hfa hfb).mono ?_
    rintro e w7 ⟨rfl, hb7⟩
    go_wp2
    go_ret
    exact ⟨rfl, Below.thn hb0 (Below.thn hB5 hb7)⟩

set_option maxHeartbeats 8000000 in
theorem langParses_any (ao : Option Addr) (cap : Nat) (l : List UInt8) (hcap : l.length ≤ cap) (hn : ao = none → cap = 0) (hlen : l.length ≤ 140737488355328) (lt lf la ln : Int) (hln : ln ≤ 9223372036854775807) (w : World) (hG : Gl w) (hE : Env w) (hT : Bd w ao l) :
    Calls Tryz.prog 3 #[.slice ao l.length cap, .agg #[.int .i64 lt, .int .i64 lf, .int .i64 la, .int .i64 ln]] w fun e w' => e = .returned (.bool true) ∧ Below w.heap.size w w' := by
  have hb0 := below_alloc w (.cells #[.int .i64 lt, .int .i64 lf, .int .i64 la, .int .i64 ln] 24)
  have hL0 : Bk (w.alloc (.cells #[.int .i64 lt, .int .i64 lf, .int .i64 la, .int .i64 ln] 24)) w.heap.size 24 [.int .i64 lt, .int .i64 lf, .int .i64 la, .int .i64 ln] := Bk.new w 24 #[.int .i64 lt, .int .i64 lf, .int .i64 la, .int .i64 ln]
  go_enter Tryz.func3, Tryz.ntmps3
  go_wp2_with fail
  refine (awake4_any _ (hG.up hb0) (env_keep hE hb0)).mono ?_
  rintro e w1 ⟨rfl, hb1⟩
  have hB1 := Below.thn hb0 hb1
  obtain ⟨k0, k1, k2, k3⟩ := Bk.four (show Bk w1 w.heap.size _ [_, _, _, _] from hL0.up hb1)
  go_wp2_with fail
  refine (one4_any ao cap l hcap hn hlen lt lf la ln hln w1 (hG.up hB1) (env_keep hE hB1) (hT.up hB1)).mono ?_
  rintro e w2 ⟨rfl, hb2⟩
  have hB2 := Below.thn hB1 hb2
  go_wp2_with fail
  refine (wide_any w2).mono ?_
  rintro e w3 ⟨rfl, hb3⟩
  have hB3 := Below.thn hB2 hb3
  go_wp2_with fail
  refine (one4_any ao cap l hcap hn hlen 32768 32768 32768 32768 (by decide) w3 (hG.up hB3) (env_keep hE hB3) (hT.up hB3)).mono ?_
  rintro e w4 ⟨rfl, hb4⟩
  go_wp2
  go_ret
  exact ⟨rfl, Below.thn hB3 hb4⟩
end Go.Proofs.YtflennpocpbbpaaGreatDoor
