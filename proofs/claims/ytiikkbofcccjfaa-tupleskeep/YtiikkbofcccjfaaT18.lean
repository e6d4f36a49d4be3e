/-
  The law's copy of a table; the document's Same of one table twice.
-/
import Derived.Test.YtiikkbofcccjfaaT17
namespace Go.Proofs.Ytiikkbofcccjfaa
open Go.RowKit
open Go.Lib
open RowsM
set_option maxRecDepth 100000

theorem act19 (a : Act) (h : a.tmps.size = 19) : a.tmps = #[Rv.ev a 0, Rv.ev a 1, Rv.ev a 2, Rv.ev a 3, Rv.ev a 4, Rv.ev a 5, Rv.ev a 6, Rv.ev a 7, Rv.ev a 8, Rv.ev a 9, Rv.ev a 10, Rv.ev a 11, Rv.ev a 12, Rv.ev a 13, Rv.ev a 14, Rv.ev a 15, Rv.ev a 16, Rv.ev a 17, Rv.ev a 18] := by
  apply Array.ext
  · simp [h]
  · intro i h1 h2
    have hi : i < 19 := by omega
    have e : a.tmps[i] = Rv.ev a i := by simp [Rv.ev, Act.eval, h1]
    rw [e]
    have hN : i = 0 ∨ i = 1 ∨ i = 2 ∨ i = 3 ∨ i = 4 ∨ i = 5 ∨ i = 6 ∨ i = 7 ∨ i = 8 ∨ i = 9 ∨ i = 10 ∨ i = 11 ∨ i = 12 ∨ i = 13 ∨ i = 14 ∨ i = 15 ∨ i = 16 ∨ i = 17 ∨ i = 18 := by omega
    rcases hN with rfl | rfl | rfl | rfl | rfl | rfl | rfl | rfl | rfl | rfl | rfl | rfl | rfl | rfl | rfl | rfl | rfl | rfl | rfl <;> rfl
theorem off19 {x0 x1 x2 z3 z4 z5 z6 z7 z8 z9 z10 z11 z12 z13 z14 z15 z16 z17 z18 : Value} {a : Act} (h : Rv.Off 16 (fun k => k + 3) { tmps := #[x0, x1, x2, z3, z4, z5, z6, z7, z8, z9, z10, z11, z12, z13, z14, z15, z16, z17, z18], defers := [] } a) : ∃ y3 y4 y5 y6 y7 y8 y9 y10 y11 y12 y13 y14 y15 y16 y17 y18, a = { tmps := #[x0, x1, x2, y3, y4, y5, y6, y7, y8, y9, y10, y11, y12, y13, y14, y15, y16, y17, y18], defers := [] } := by
  refine ⟨Rv.ev a 3, Rv.ev a 4, Rv.ev a 5, Rv.ev a 6, Rv.ev a 7, Rv.ev a 8, Rv.ev a 9, Rv.ev a 10, Rv.ev a 11, Rv.ev a 12, Rv.ev a 13, Rv.ev a 14, Rv.ev a 15, Rv.ev a 16, Rv.ev a 17, Rv.ev a 18, ?_⟩
  have e := act19 a h.size
  have h0 : Rv.ev a 0 = x0 := h.same 0 (by decide)
  have h1 : Rv.ev a 1 = x1 := h.same 1 (by decide)
  have h2 : Rv.ev a 2 = x2 := h.same 2 (by decide)
  rw [h0, h1, h2] at e
  have hd : a.defers = [] := h.def_
  obtain ⟨tm, df⟩ := a
  simp only at hd e
  rw [hd]
  congr 1

/-- How the copy ends. -/
def CopEnd (ks : List Int) (t n : Int) (xs : List Nat) (w : World) (e : Ending) (w' : World) : Prop :=
  ∃ po pc so c, e = .returned (.agg #[.slice po ks.length pc, .int .i64 t, .int .i64 n, .slice so xs.length c]) ∧ TbW w' ks xs po so pc c ∧ Below w.heap.size w w'

set_option maxHeartbeats 4000000 in
theorem copied16_any (ks : List Int) (t n : Int) (xs : List Nat) (ao bo : Option Addr) (ca cb : Nat) (w : World) (h : TbW w ks xs ao bo ca cb) :
    Calls Try.prog 21 #[.agg #[.slice ao ks.length ca, .int .i64 t, .int .i64 n, .slice bo xs.length cb]] w fun e w' => CopEnd ks t n xs w e w' := by
  have s0 := (S4.new w (.slice ao ks.length ca) (.int .i64 t) (.int .i64 n) (.slice bo xs.length cb)).alloc (.cells #[.slice none 0 0, .int .i64 0, .int .i64 0, .slice none 0 0] 43)
  have r0 := S4.new (w.alloc (.cells #[.slice ao ks.length ca, .int .i64 t, .int .i64 n, .slice bo xs.length cb] 43)) (.slice none 0 0) (.int .i64 0) (.int .i64 0) (.slice none 0 0)
  have b0 := (below_alloc w (.cells #[.slice ao ks.length ca, .int .i64 t, .int .i64 n, .slice bo xs.length cb] 43)).trans ((below_alloc (w.alloc (.cells #[.slice ao ks.length ca, .int .i64 t, .int .i64 n, .slice bo xs.length cb] 43)) (.cells #[.slice none 0 0, .int .i64 0, .int .i64 0, .slice none 0 0] 43)).mono (by simp))
  have h0 := h.up b0
  have hz1 : (w.alloc (.cells #[.slice ao ks.length ca, .int .i64 t, .int .i64 n, .slice bo xs.length cb] 43)).heap.size = w.heap.size + 1 := by simp
  have hz0 : w.heap.size + 2 ≤ ((w.alloc (.cells #[.slice ao ks.length ca, .int .i64 t, .int .i64 n, .slice bo xs.length cb] 43)).alloc (.cells #[.slice none 0 0, .int .i64 0, .int .i64 0, .slice none 0 0] 43)).heap.size := by simp
  rw [hz1] at r0
  clear hz1 h
  go_enter Try.func21, Try.ntmps21
  go_upto_region 1 with fail
  obtain ⟨W, hW⟩ : ∃ W, W = (w.alloc (.cells #[.slice ao ks.length ca, .int .i64 t, .int .i64 n, .slice bo xs.length cb] 43)).alloc (.cells #[.slice none 0 0, .int .i64 0, .int .i64 0, .slice none 0 0] 43) := ⟨_, rfl⟩
  rw [← hW] at s0 r0 b0 h0 hz0 ⊢
  clear hW
  refine wp_region_any (by kernel_rfl) ?_
  refine copy_region (X0 := W) (B := w.heap.size) (R := w.heap.size + 1) (ks := ks) (t := t) (n := n) (xs := xs) (ao := ao) (bo := bo) (ca := ca) (cb := cb) (fun w' => ∃ po pc so c, S4 w' (w.heap.size + 1) (.slice po ks.length pc) (.int .i64 t) (.int .i64 n) (.slice so xs.length c) ∧ TbW w' ks xs po so pc c ∧ Below w.heap.size w w')
    (fun w' hb => s0.up hb) (fun w' hb => r0.up hb) (fun w' hb => h0.up hb) ?_ (by show 19 ≤ 19; decide) rfl rfl (Below.refl _ _).drew ?_
  · intro w1 po pc so c hb hi hn1 hp hr hn2
    exact ⟨po, pc, so, c, s4_set4 (r0.up hb), ⟨iz_set4 hi (fun hk g off e => by have := hp hk g off e; omega) _ _ _ _, rd_set4 hr (r0.up hb) (by intro z hz; cases hz) (by intro z hz; cases hz) _ _ _ _, h0.l1, h0.l2, hn1, hn2⟩, below_set4 (Below.thn b0 hb) (Nat.le_succ _) _ _ _ _⟩
  · intro a w1 hO hK
    obtain ⟨po, pc, so, c, hs, hT, hB⟩ := hK
    obtain ⟨u0, u1, u2, u3⟩ := hs.cells
    obtain ⟨y3, y4, y5, y6, y7, y8, y9, y10, y11, y12, y13, y14, y15, y16, y17, y18, rfl⟩ := off19 hO
    clear hO
    go_wp2
    refine bodyPost_ret (v := .agg #[.slice po ks.length pc, .int .i64 t, .int .i64 n, .slice so xs.length c]) (by simp [results, Try.results21, go_sem, u0, u1, u2, u3]) rfl ?_
    exact ⟨po, pc, so, c, rfl, hT, hB⟩

set_option maxHeartbeats 4000000 in
theorem rsame_one (ks : List Int) (t n : Int) (xs : List Nat) (ao bo co eo : Option Addr) (ca cb cc ce : Nat) (w : World) (hi : Iz w ao ks) (hr : Rd w bo xs) (gi : Iz w co ks) (gr : Rd w eo xs) (l1 : ks.length ≤ 17592186043904) (l2 : xs.length ≤ 17592186043904) :
    Calls Try.prog 22 #[.agg #[.slice ao ks.length ca, .int .i64 t, .int .i64 n, .slice bo xs.length cb], .agg #[.slice co ks.length cc, .int .i64 t, .int .i64 n, .slice eo xs.length ce]] w fun e w' => e = .returned (.bool true) ∧ Below w.heap.size w w' := by
  have s0 := (S4.new w (.slice ao ks.length ca) (.int .i64 t) (.int .i64 n) (.slice bo xs.length cb)).alloc (.cells #[.slice co ks.length cc, .int .i64 t, .int .i64 n, .slice eo xs.length ce] 43)
  have r0 := S4.new (w.alloc (.cells #[.slice ao ks.length ca, .int .i64 t, .int .i64 n, .slice bo xs.length cb] 43)) (.slice co ks.length cc) (.int .i64 t) (.int .i64 n) (.slice eo xs.length ce)
  have b0 := (below_alloc w (.cells #[.slice ao ks.length ca, .int .i64 t, .int .i64 n, .slice bo xs.length cb] 43)).trans ((below_alloc (w.alloc (.cells #[.slice ao ks.length ca, .int .i64 t, .int .i64 n, .slice bo xs.length cb] 43)) (.cells #[.slice co ks.length cc, .int .i64 t, .int .i64 n, .slice eo xs.length ce] 43)).mono (by simp))
  have h0 := hi.up b0
  have g0 := gi.up b0
  have hz1 : (w.alloc (.cells #[.slice ao ks.length ca, .int .i64 t, .int .i64 n, .slice bo xs.length cb] 43)).heap.size = w.heap.size + 1 := by simp
  rw [hz1] at r0
  clear hz1 hi gi
  have hsm := same_any n n bo eo cb ce xs xs _ (hr.up b0) (gr.up b0) l2 l2
  rw [show sameR n n xs xs = true by unfold sameR; simp] at hsm
  obtain ⟨p0, p1, p2, p3⟩ := s0.cells
  obtain ⟨q0, q1, q2, q3⟩ := r0.cells
  go_enter Try.func22, Try.ntmps22
  go_wp2_with fail
  refine hsm.mono ?_
  rintro e w1 ⟨rfl, hb⟩
  clear p0 p1 p2 p3 q0 q1 q2 q3 hsm hr gr
  have s1 := s0.up hb
  have r1 := r0.up hb
  have h1 := h0.up hb
  have g1 := g0.up hb
  have b1 := Below.thn b0 hb
  clear s0 r0 h0 g0 b0 hb
  go_wp2
  go_loopw [5] (fun i wr => ∃ k : Nat, k ≤ ks.length ∧ i = .int .i64 k ∧ Below w1.heap.size w1 wr) (fun i _ => ks.length - (intOf i).toNat)
  case atStart => exact ⟨0, Nat.zero_le _, rfl, Below.refl _ _⟩
  case round =>
    obtain ⟨k, hk, rfl, hbz⟩ := hrel
    obtain ⟨p0, p1, p2, p3⟩ := (s1.up hbz).cells
    obtain ⟨q0, q1, q2, q3⟩ := (r1.up hbz).cells
    by_cases hlt : k < ks.length
    · obtain ⟨b, off, rfl, hc⟩ := (h1.up hbz) (by intro e; subst e; simp at hlt)
      obtain ⟨b', off', rfl, hc'⟩ := (g1.up hbz) (by intro e; subst e; simp at hlt)
      have ha := hc k hlt
      have ha' := hc' k hlt
      generalize ks.getD k 0 = x at *
      clear hc hc' s1 r1 h1 g1
      go_wp2_with fail
      go_quiet (fail)
      go_wp2
      go_roundw
      case rel => exact ⟨k + 1, by omega, by go_num, below_drewN hbz _⟩
      case measure => simp [intOf]; omega
    · obtain rfl : k = ks.length := by omega
      clear s1 r1 h1 g1
      go_wp2
      go_ret
      exact ⟨rfl, Below.thn b1 hbz⟩
end Go.Proofs.Ytiikkbofcccjfaa
