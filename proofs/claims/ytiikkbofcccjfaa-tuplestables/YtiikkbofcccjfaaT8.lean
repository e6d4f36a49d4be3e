/-
  Set: the program's and the document's; the document's Of.
-/
import Derived.Test.YtiikkbofcccjfaaT7
namespace Go.Proofs.Ytiikkbofcccjfaa
open Go.RowKit
open Go.Lib
open RowsM
set_option maxRecDepth 100000

def setE (ks : List Int) (t n : Int) (xs : List Nat) (ps : List Int) (p : Int) : Int := if fndE ks t n xs ps = 0 then chkP t p else fndE ks t n xs ps
def setK (ks : List Int) (t n : Int) (xs : List Nat) (ps : List Int) (p : Int) : List Int := if setE ks t n xs ps p = 0 then ks else []
def setT (ks : List Int) (t n : Int) (xs : List Nat) (ps : List Int) (p : Int) : Int := if setE ks t n xs ps p = 0 then t else 0
def setN (ks : List Int) (t n : Int) (xs : List Nat) (ps : List Int) (p : Int) : Int := if setE ks t n xs ps p = 0 then n else 0
def setX (ks : List Int) (t n : Int) (xs : List Nat) (ps : List Int) (p : Int) : List Nat := if setE ks t n xs ps p = 0 then putL n xs (numV ks ps) p else []
theorem set_no {ks : List Int} {t n : Int} {xs : List Nat} {ps : List Int} {p c : Int} (h : setE ks t n xs ps p = c) (hc : c ≠ 0) : setK ks t n xs ps p = [] ∧ setT ks t n xs ps p = 0 ∧ setN ks t n xs ps p = 0 ∧ setX ks t n xs ps p = [] ∧ setE ks t n xs ps p = c := by
  subst h
  unfold setK setT setN setX
  rw [if_neg hc, if_neg hc, if_neg hc, if_neg hc]
  simp
theorem set_yes {ks : List Int} {t n : Int} {xs : List Nat} {ps : List Int} {p : Int} (h : fndE ks t n xs ps = 0) (hp : chkP t p = 0) : setK ks t n xs ps p = ks ∧ setT ks t n xs ps p = t ∧ setN ks t n xs ps p = n ∧ setX ks t n xs ps p = putL n xs (numV ks ps) p ∧ setE ks t n xs ps p = 0 := by
  have e : setE ks t n xs ps p = 0 := by unfold setE; rw [if_pos h, hp]
  unfold setK setT setN setX
  rw [e]
  simp
theorem set_fnd {ks : List Int} {t n : Int} {xs : List Nat} {ps : List Int} {p : Int} (h : fndE ks t n xs ps ≠ 0) : setE ks t n xs ps p = fndE ks t n xs ps := by unfold setE; rw [if_neg h]
theorem set_chk {ks : List Int} {t n : Int} {xs : List Nat} {ps : List Int} {p : Int} (h : fndE ks t n xs ps = 0) : setE ks t n xs ps p = chkP t p := by unfold setE; rw [if_pos h]
theorem chk_zero {t p : Int} (h : chkP t p = 0) : isP t p = true ∧ 0 ≤ p ∧ p ≤ 3 ∧ p ≤ topP t := by
  have h3 := top_le3 t
  unfold chkP at h
  split at h
  · omega
  · split at h
    · rename_i hp
      have h' : 0 ≤ p ∧ p ≤ topP t := by simpa [isP] using hp
      exact ⟨hp, h'.1, by omega, h'.2⟩
    · omega
theorem set_put {ks : List Int} {t n : Int} {xs : List Nat} {ps : List Int} {p : Int} (h : fndE ks t n xs ps = 0) (hp : chkP t p = 0) : okPut n xs (numV ks ps) p = true ∧ putE n xs (numV ks ps) p = 0 := by
  obtain ⟨_, _, _, hr, hi, _⟩ := fnd_zero h
  obtain ⟨_, h0, h3, _⟩ := chk_zero hp
  have hv : okV p = true := by unfold okV; simp; omega
  unfold okPut putE
  rw [hr, hi, hv]
  simp

set_option maxHeartbeats 2000000 in
theorem tset_any (ks : List Int) (t n : Int) (xs : List Nat) (ao bo : Option Addr) (ca cb : Nat) (w : World) (h : TbW w ks xs ao bo ca cb) (ps : List Int) (co : Option Addr) (cc : Nat) (g : Iz w co ps) (gl : ps.length ≤ 17592186043904) (p : Int) (hcap : ao = none → ca = 0) :
    Calls Try.prog 25 #[.agg #[.slice ao ks.length ca, .int .i64 t, .int .i64 n, .slice bo xs.length cb], .slice co ps.length cc, .int .i64 p] w fun e w' => TabEnd (setK ks t n xs ps p) (setT ks t n xs ps p) (setN ks t n xs ps p) (setE ks t n xs ps p) (setX ks t n xs ps p) w e w' := by
  have s0 := (S4.new w (.slice ao ks.length ca) (.int .i64 t) (.int .i64 n) (.slice bo xs.length cb)).alloc (.cells #[.slice none 0 0, .int .i64 0, .int .i64 0, .slice none 0 0] 43)
  have r0 := S4.new (w.alloc (.cells #[.slice ao ks.length ca, .int .i64 t, .int .i64 n, .slice bo xs.length cb] 43)) (.slice none 0 0) (.int .i64 0) (.int .i64 0) (.slice none 0 0)
  have b0 := (below_alloc w (.cells #[.slice ao ks.length ca, .int .i64 t, .int .i64 n, .slice bo xs.length cb] 43)).trans ((below_alloc (w.alloc (.cells #[.slice ao ks.length ca, .int .i64 t, .int .i64 n, .slice bo xs.length cb] 43)) (.cells #[.slice none 0 0, .int .i64 0, .int .i64 0, .slice none 0 0] 43)).mono (by simp))
  have h0 := h.up b0
  have g0 := g.up b0
  have hz0 : w.heap.size + 2 = ((w.alloc (.cells #[.slice ao ks.length ca, .int .i64 t, .int .i64 n, .slice bo xs.length cb] 43)).alloc (.cells #[.slice none 0 0, .int .i64 0, .int .i64 0, .slice none 0 0] 43)).heap.size := by simp
  have hz1 : (w.alloc (.cells #[.slice ao ks.length ca, .int .i64 t, .int .i64 n, .slice bo xs.length cb] 43)).heap.size = w.heap.size + 1 := by simp
  rw [hz1] at r0
  clear hz1
  obtain ⟨p0, p1, p2, p3⟩ := s0.cells
  obtain ⟨q0, q1, q2, q3⟩ := r0.free
  obtain ⟨u0, u1, u2, u3⟩ := r0.cells
  have hck := find_any ks t n xs ao bo ca cb _ h0 ps co cc g0 gl
  by_cases hE : fndE ks t n xs ps = 0
  · have hpc := fun w => pcheck_any t p w
    by_cases hP : chkP t p = 0
    · obtain ⟨k1, k2, k3, k4, k5⟩ := set_yes hE hP
      rw [k1, k2, k3, k4, k5]
      obtain ⟨_, _, hv, _⟩ := fnd_zero hE
      obtain ⟨hp1, hp2⟩ := set_put hE hP
      rw [hE, hv] at hck
      rw [hP] at hpc
      have hput := fun w h => put_any n bo cb xs (numV ks ps) p w h h0.l2
      rw [hp1, hp2] at hput
      simp only [if_true] at hput
      generalize numV ks ps = V at *
      generalize putL n xs V p = L at *
      clear k1 k2 k3 k4 k5 hE hP hv hp1 hp2
      go_enter Try.func25, Try.ntmps25
      go_wp2_with fail
      refine hck.mono ?_
      rintro e w1 ⟨rfl, hb⟩
      clear p0 p1 p2 p3 q0 q1 q2 q3 u0 u1 u2 u3
      have s1 := s0.up hb
      have r1 := r0.up hb
      have h1 := h0.up hb
      have g1 := g0.up hb
      have b1 := Below.thn b0 hb
      have z1 := hb.size
      obtain ⟨p0, p1, p2, p3⟩ := s1.cells
      obtain ⟨q0, q1, q2, q3⟩ := r1.free
      obtain ⟨u0, u1, u2, u3⟩ := r1.cells
      clear s0 r0 h0 g0 b0 hb
      rw [← hz0] at z1
      clear hz0 hck h g
      go_wp2_with fail
      refine (hpc _).mono ?_
      rintro e w2 ⟨rfl, rfl⟩
      clear hpc
      go_wp2_with fail
      refine (hput _ h1.rd).mono ?_
      rintro e w3 ⟨so, cap, rfl, hf, hb⟩
      clear p0 p1 p2 p3 q0 q1 q2 q3 u0 u1 u2 u3
      have s3 := s1.up hb
      have r3 := r1.up hb
      have h3 := h1.up hb
      have g3 := g1.up hb
      have b3 := Below.thn b1 hb
      have z3 := hb.size
      obtain ⟨p0, p1, p2, p3⟩ := s3.cells
      obtain ⟨q0, q1, q2, q3⟩ := r3.free
      obtain ⟨u0, u1, u2, u3⟩ := r3.cells
      clear s1 r1 h1 g1 b1 hb
      have f3 := fresh_up hf (below_alloc _ (.cells #[.int .i64 n, .slice so L.length cap] 41))
      have hb := below_alloc w3 (.cells #[.int .i64 n, .slice so L.length cap] 41)
      have t3 := St.new w3 (.int .i64 n) (.slice so L.length cap)
      have zz : w3.heap.size ≤ (w3.alloc (.cells #[.int .i64 n, .slice so L.length cap] 41)).heap.size := by simp
      clear p0 p1 p2 p3 q0 q1 q2 q3 u0 u1 u2 u3
      have s4 := s3.up hb
      have r4 := r3.up hb
      have h4 := h3.up hb
      have g4 := g3.up hb
      have b4 := Below.thn b3 hb
      have z4 := hb.size
      obtain ⟨p0, p1, p2, p3⟩ := s4.cells
      obtain ⟨q0, q1, q2, q3⟩ := r4.free
      obtain ⟨u0, u1, u2, u3⟩ := r4.cells
      clear s3 r3 h3 g3 b3 hb
      obtain ⟨v0, v1, _, _⟩ := t3.cells
      clear hput hf
      go_wp2_with fail
      generalize hW : w3.alloc (.cells #[.int .i64 n, .slice so L.length cap] 41) = W at *
      clear hW z4
      have hcp : ∀ W', Below W.heap.size W W' → Calls Try.prog 38 #[.slice ao ks.length ca] W' fun e w' => (∃ v, e = .returned v ∧ w'.ownsRow W'.heap.size 38 1 v ks.length (ks.map fun z => .int .i64 z)) ∧ Below W'.heap.size W' w' := fun W' hW => copiedT_any ks ao ca W' (h4.iz.up hW) h4.l1 hcap
      have hs4 := s4.lt
      have hr4 := r4.lt
      have b44 := Below.refl W.heap.size W
      go_region_with (go_at_call 38; refine (hcp _ ?_).mono ?_; exact Below.drew b44; rintro e w7 ⟨⟨v, rfl, hO⟩, hb7⟩; have b7 := Below.thn b44.drew hb7; have s7 := s4.up b7; have r7 := r4.up b7; have t7 := t3.up b7; clear p0 p1 p2 p3 q0 q1 q2 q3 u0 u1 u2 u3 v0 v1; obtain ⟨p0, p1, p2, p3⟩ := s7.cells; obtain ⟨q0, q1, q2, q3⟩ := r7.free; obtain ⟨u0, u1, u2, u3⟩ := r7.cells; obtain ⟨v0, v1, _, _⟩ := t7.cells; obtain ⟨po, pc, rfl, hiz, hpl, hpg⟩ := own_iz hO rfl; have HB : Hid (Below w.heap.size w w7) := Below.thn b4 b7; have HB7 : Hid (Below W.heap.size W w7) := b7; have HO : Hid (w7.ownsRow W.heap.size 38 1 (.slice po ks.length pc) ks.length (ks.map fun z => .int .i64 z)) := hO; clear hO b7 hb7 hiz hpl hpg s7 r7 t7)
      all_goals
        go_wp2
        refine bodyPost_ret (v := .tuple #[.agg #[.slice po ks.length pc, .int .i64 t, .int .i64 n, .slice so L.length cap], .int .i64 0]) (by simp [results, Try.results25, go_sem, u0, u1, u2, u3]) rfl ?_
        exact ⟨po, pc, so, cap, rfl, owns_mono (owns_set4 HO.out hr4) (Nat.le_of_lt hs4), fresh_mono (fresh_set4 (fresh_up f3 HB7.out) (by omega)) (by omega), below_set4 HB.out (Nat.le_succ _) _ _ _ _⟩
    · obtain ⟨k1, k2, k3, k4, k5⟩ := set_no (set_chk (p := p) hE) hP
      rw [k1, k2, k3, k4, k5]
      rw [hE] at hck
      generalize fndV ks t n xs ps = V at *
      generalize chkP t p = c at *
      have hne : (c != 0) = true := by simpa using hP
      clear k1 k2 k3 k4 k5 hE hP
      go_enter Try.func25, Try.ntmps25
      go_wp2_with fail
      refine hck.mono ?_
      rintro e w1 ⟨rfl, hb⟩
      clear p0 p1 p2 p3 q0 q1 q2 q3 u0 u1 u2 u3
      have s1 := s0.up hb
      have r1 := r0.up hb
      have h1 := h0.up hb
      have g1 := g0.up hb
      have b1 := Below.thn b0 hb
      have z1 := hb.size
      obtain ⟨p0, p1, p2, p3⟩ := s1.cells
      obtain ⟨q0, q1, q2, q3⟩ := r1.free
      obtain ⟨u0, u1, u2, u3⟩ := r1.cells
      clear s0 r0 h0 g0 b0 hb
      rw [← hz0] at z1
      clear hz0 hck h g
      go_wp2_with fail
      refine (hpc _).mono ?_
      rintro e w2 ⟨rfl, rfl⟩
      clear hpc
      go_wp2
      refine bodyPost_ret (v := .tuple #[.agg #[.slice none 0 0, .int .i64 0, .int .i64 0, .slice none 0 0], .int .i64 c]) (by simp [results, Try.results25, go_sem, u0, u1, u2, u3]) rfl ?_
      exact (tab_no (below_set4 b1 (Nat.le_succ _) _ _ _ _))
  · obtain ⟨k1, k2, k3, k4, k5⟩ := set_no (set_fnd (p := p) hE) hE
    rw [k1, k2, k3, k4, k5]
    generalize fndV ks t n xs ps = V at *
    generalize fndE ks t n xs ps = c at *
    have hne : (c != 0) = true := by simpa using hE
    clear k1 k2 k3 k4 k5 hE
    go_enter Try.func25, Try.ntmps25
    go_wp2_with fail
    refine hck.mono ?_
    rintro e w1 ⟨rfl, hb⟩
    clear p0 p1 p2 p3 q0 q1 q2 q3 u0 u1 u2 u3
    have s1 := s0.up hb
    have r1 := r0.up hb
    have h1 := h0.up hb
    have g1 := g0.up hb
    have b1 := Below.thn b0 hb
    have z1 := hb.size
    obtain ⟨p0, p1, p2, p3⟩ := s1.cells
    obtain ⟨q0, q1, q2, q3⟩ := r1.free
    obtain ⟨u0, u1, u2, u3⟩ := r1.cells
    clear s0 r0 h0 g0 b0 hb
    rw [← hz0] at z1
    clear hz0 hck h g
    go_wp2
    refine bodyPost_ret (v := .tuple #[.agg #[.slice none 0 0, .int .i64 0, .int .i64 0, .slice none 0 0], .int .i64 c]) (by simp [results, Try.results25, go_sem, u0, u1, u2, u3]) rfl ?_
    exact (tab_no (below_set4 b1 (Nat.le_succ _) _ _ _ _))
end Go.Proofs.Ytiikkbofcccjfaa
