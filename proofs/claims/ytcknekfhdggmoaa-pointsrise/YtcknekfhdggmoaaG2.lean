/-
  Ways of a case: Cases, the document's Cases, covered, into, awake.
-/
import Derived.Test.YtcknekfhdggmoaaG1
namespace Go.Proofs.Ytcknekfhdggmoaa
open Go.RowKit
open Go.Lib
set_option maxRecDepth 100000

theorem bel_drewN {B : Nat} {w w' : World} (h : Below B w w') (q : Nat) : Below B w (w'.drewN q) := ⟨h.os, h.tape, h.output, h.size, h.block⟩

/-- A way of a case. -/
structure Br where
  n : Bool
  h : Int
  t : Int
deriving DecidableEq
def br0 : Br := ⟨false, 0, 0⟩
def brC (b : Br) : List Value := [.bool b.n, .int .i64 b.h, .int .i64 b.t]

/-- What a slice of ways reads: in order from some cell on. -/
def BrW (w : World) (v : Value) (ls : List Br) : Prop :=
  ∃ ao, v = .slice ao ls.length ls.length ∧ ∀ i, i < ls.length → ∃ b o, ao = some ⟨b, o, none⟩ ∧ w.cell? ⟨b, o + i * 3, none⟩ = some (.bool (ls.getD i br0).n) ∧ w.cell? ⟨b, o + i * 3 + 1, none⟩ = some (.int .i64 (ls.getD i br0).h) ∧ w.cell? ⟨b, o + i * 3 + 2, none⟩ = some (.int .i64 (ls.getD i br0).t)

theorem BrW.up {w w' : World} {v : Value} {ls : List Br} (h : BrW w v ls) (hb : Below w.heap.size w w') : BrW w' v ls := by
  obtain ⟨ao, e, hc⟩ := h
  refine ⟨ao, e, fun i hi => ?_⟩
  obtain ⟨b, o, e2, c0, c1, c2⟩ := hc i hi
  have hl := cell_lt c0
  exact ⟨b, o, e2, (hb.cell hl).trans c0, (hb.cell hl).trans c1, (hb.cell hl).trans c2⟩
theorem BrW.nil (w : World) : BrW w (.slice none 0 0) [] := ⟨none, rfl, fun _ hi => absurd hi (Nat.not_lt_zero _)⟩
theorem BrW.one {w : World} {b : Nat} (x : Br) (h : Bk w b 39 (brC x)) : BrW w (.slice (some ⟨b, 0, none⟩) 1 1) [x] := by
  refine ⟨_, rfl, fun i hi => ?_⟩
  have : i = 0 := by simp at hi; exact hi
  subst this
  exact ⟨b, 0, rfl, h.cell 0, h.cell 1, h.cell 2⟩
theorem BrW.two {w : World} {b : Nat} (x y : Br) (h : Bk w b 39 (brC x ++ brC y)) : BrW w (.slice (some ⟨b, 0, none⟩) 2 2) [x, y] := by
  refine ⟨_, rfl, fun i hi => ?_⟩
  have : i = 0 ∨ i = 1 := by simp at hi; omega
  rcases this with rfl | rfl
  · exact ⟨b, 0, rfl, h.cell 0, h.cell 1, h.cell 2⟩
  · exact ⟨b, 0, rfl, h.cell 3, h.cell 4, h.cell 5⟩

/-- The ways of a case of a list of a point. -/
def csP (p : Int) : List Br := if p = 1 then [⟨false, 1, 1⟩] else if p = 2 then [⟨false, 0, 3⟩, ⟨false, 1, 2⟩] else if p = 3 then [⟨true, 0, 0⟩, ⟨false, 1, 3⟩] else []

theorem pt_cases (p : Int) : p = 0 ∨ p = 1 ∨ p = 2 ∨ p = 3 ∨ ((p == 0) = false ∧ (p == 1) = false ∧ (p == 2) = false ∧ (p == 3) = false ∧ csP p = [] ∧ chkP 3 p = 2) := by
  by_cases h0 : p = 0
  · exact .inl h0
  · by_cases h1 : p = 1
    · exact .inr (.inl h1)
    · by_cases h2 : p = 2
      · exact .inr (.inr (.inl h2))
      · by_cases h3 : p = 3
        · exact .inr (.inr (.inr (.inl h3)))
        · refine .inr (.inr (.inr (.inr ⟨by simpa using h0, by simpa using h1, by simpa using h2, by simpa using h3, ?_, ?_⟩)))
          · unfold csP
            rw [if_neg h1, if_neg h2, if_neg h3]
          · unfold chkP isP
            have : topP 3 = 3 := by decide
            rw [this, if_neg (by decide), decide_eq_false (by omega)]
            rfl

theorem cases_any (p : Int) (w : World) :
    Calls Try.prog 14 #[.int .i64 p] w fun e w' => ∃ v, e = .returned (.tuple #[v, .int .i64 (chkP 3 p)]) ∧ BrW w' v (csP p) ∧ Below w.heap.size w w' := by
  rcases pt_cases p with rfl | rfl | rfl | rfl | ⟨h0, h1, h2, h3, e1, e2⟩
  case inr.inr.inr.inr =>
    rw [e1, e2]
    clear e1 e2
    go_enter Try.func14, Try.ntmps14
    go_wp2
    exact bodyPost_ret (v := .tuple #[.slice none 0 0, .int .i64 2]) (by simp [results, Try.results14, go_sem]) rfl ⟨_, rfl, BrW.nil _, Below.refl _ _⟩
  · rw [show csP 0 = [] from by decide, show chkP 3 0 = 0 from by decide]
    go_enter Try.func14, Try.ntmps14
    go_wp2
    exact bodyPost_ret (v := .tuple #[.slice none 0 0, .int .i64 0]) (by simp [results, Try.results14, go_sem]) rfl ⟨_, rfl, BrW.nil _, Below.refl _ _⟩
  · rw [show csP 1 = [⟨false, 1, 1⟩] from by decide, show chkP 3 1 = 0 from by decide]
    go_enter Try.func14, Try.ntmps14
    go_wp2
    exact bodyPost_ret (v := .tuple #[.slice (some ⟨w.heap.size, 0, none⟩) 1 1, .int .i64 0]) (by simp [results, Try.results14, go_sem]) rfl ⟨_, rfl, BrW.one _ (Bk.new w _ _), below_alloc _ _⟩
  · rw [show csP 2 = [⟨false, 0, 3⟩, ⟨false, 1, 2⟩] from by decide, show chkP 3 2 = 0 from by decide]
    go_enter Try.func14, Try.ntmps14
    go_wp2
    exact bodyPost_ret (v := .tuple #[.slice (some ⟨w.heap.size, 0, none⟩) 2 2, .int .i64 0]) (by simp [results, Try.results14, go_sem]) rfl ⟨_, rfl, BrW.two _ _ (Bk.new w _ _), below_alloc _ _⟩
  · rw [show csP 3 = [⟨true, 0, 0⟩, ⟨false, 1, 3⟩] from by decide, show chkP 3 3 = 0 from by decide]
    go_enter Try.func14, Try.ntmps14
    go_wp2
    exact bodyPost_ret (v := .tuple #[.slice (some ⟨w.heap.size, 0, none⟩) 2 2, .int .i64 0]) (by simp [results, Try.results14, go_sem]) rfl ⟨_, rfl, BrW.two _ _ (Bk.new w _ _), below_alloc _ _⟩

theorem rcases_any (p : Int) (w : World) :
    Calls Try.prog 15 #[.int .i64 p] w fun e w' => ∃ v, e = .returned v ∧ BrW w' v (csP p) ∧ Below w.heap.size w w' := by
  rcases pt_cases p with rfl | rfl | rfl | rfl | ⟨h0, h1, h2, h3, e1, e2⟩
  case inr.inr.inr.inr =>
    rw [e1]
    clear e1 e2
    go_enter Try.func15, Try.ntmps15
    go_wp2
    go_ret
    exact ⟨_, rfl, BrW.nil _, Below.refl _ _⟩
  · rw [show csP 0 = [] from by decide]
    go_enter Try.func15, Try.ntmps15
    go_wp2
    go_ret
    exact ⟨_, rfl, BrW.nil _, Below.refl _ _⟩
  · rw [show csP 1 = [⟨false, 1, 1⟩] from by decide]
    go_enter Try.func15, Try.ntmps15
    go_wp2
    go_ret
    exact ⟨_, rfl, BrW.one _ (Bk.new w _ _), below_alloc _ _⟩
  · rw [show csP 2 = [⟨false, 0, 3⟩, ⟨false, 1, 2⟩] from by decide]
    go_enter Try.func15, Try.ntmps15
    go_wp2
    go_ret
    exact ⟨_, rfl, BrW.two _ _ (Bk.new w _ _), below_alloc _ _⟩
  · rw [show csP 3 = [⟨true, 0, 0⟩, ⟨false, 1, 3⟩] from by decide]
    go_enter Try.func15, Try.ntmps15
    go_wp2
    go_ret
    exact ⟨_, rfl, BrW.two _ _ (Bk.new w _ _), below_alloc _ _⟩

theorem into_num (n k : Int) (hk : 0 < k) (hk9 : k ≤ 9) : 0 ≤ (wrap64 (n.tmod k + k)).tmod k ∧ (wrap64 (n.tmod k + k)).tmod k < k := by
  have h1 : -k < n.tmod k := by
    have := Int.lt_tmod_of_pos n hk
    omega
  have h2 : n.tmod k < k := Int.tmod_lt_of_pos n hk
  have e : wrap64 (n.tmod k + k) = n.tmod k + k := by
    simp only [wrap64]; omega
  rw [e]
  exact ⟨Int.tmod_nonneg _ (by omega), Int.tmod_lt_of_pos _ hk⟩

theorem into_any (n k : Int) (hk : 0 < k) (hk9 : k ≤ 9) (w : World) :
    Calls Try.prog 21 #[.int .i64 n, .int .i64 k] w fun e w' => ∃ r, e = .returned (.int .i64 r) ∧ 0 ≤ r ∧ r < k ∧ Below w.heap.size w w' := by
  have hk0 : (k == 0) = false := by simp; omega
  have hk0' : ¬ k = 0 := by omega
  have h := into_num n k hk hk9
  go_enter Try.func21, Try.ntmps21
  go_wp2
  go_ret
  exact ⟨_, rfl, h.1, h.2, Below.refl _ _⟩

/-- Does this way go where that one goes, with points that are not lesser? -/
def cov1 (u l : Br) : Bool := l.n == u.n && decide (u.h ≤ l.h) && decide (u.t ≤ l.t)
def covP (u : Br) (ls : List Br) : Bool := ls.any (cov1 u)

set_option maxHeartbeats 1000000 in
theorem covered_any (u : Br) (v : Value) (ls : List Br) (w : World) (h : BrW w v ls) (hn : ls.length ≤ 9) :
    Calls Try.prog 22 #[.agg #[.bool u.n, .int .i64 u.h, .int .i64 u.t], v] w fun e w' => e = .returned (.bool (covP u ls)) ∧ Below w.heap.size w w' := by
  obtain ⟨ao, rfl, hc⟩ := h
  obtain ⟨n, hnn⟩ : ∃ n, n = ls.length := ⟨_, rfl⟩
  rw [← hnn] at hc hn ⊢
  have HN : Hid (n = ls.length) := hnn
  obtain ⟨r, hr⟩ : ∃ r, r = covP u ls := ⟨_, rfl⟩
  rw [← hr]
  have HR : Hid (r = covP u ls) := hr
  have HC : Hid (∀ i, i < n → ∃ b o, ao = some ⟨b, o, none⟩ ∧ w.cell? ⟨b, o + i * 3, none⟩ = some (.bool (ls.getD i br0).n) ∧ w.cell? ⟨b, o + i * 3 + 1, none⟩ = some (.int .i64 (ls.getD i br0).h) ∧ w.cell? ⟨b, o + i * 3 + 2, none⟩ = some (.int .i64 (ls.getD i br0).t)) := hc
  clear hnn hr hc
  obtain ⟨un, uh, ut⟩ := u
  have b0 := below_alloc w (.cells #[.bool un, .int .i64 uh, .int .i64 ut] 39)
  have hB := Bk.new w 39 #[.bool un, .int .i64 uh, .int .i64 ut]
  go_enter Try.func22, Try.ntmps22
  go_upto_region 1 with fail
  generalize hW : w.alloc (.cells #[.bool un, .int .i64 uh, .int .i64 ut] 39) = W at *
  obtain ⟨g, hg⟩ : ∃ g, g = w.heap.size := ⟨_, rfl⟩
  rw [← hg] at hB ⊢
  have HB0 : Hid (Below w.heap.size w W) := b0
  have HB : Hid (Bk W g 39 [.bool un, .int .i64 uh, .int .i64 ut]) := hB
  clear hW hg b0 hB
  go_wp2_with fail
  go_loopw [5] (fun i wr => ∃ k : Nat, k ≤ n ∧ i = .int .i64 k ∧ Below W.heap.size W wr ∧ Hid (∀ j, j < k → cov1 ⟨un, uh, ut⟩ (ls.getD j br0) = false)) (fun i _ => n - (intOf i).toNat)
  case atStart => exact ⟨0, Nat.zero_le _, rfl, Below.refl _ _, fun _ hj => absurd hj (Nat.not_lt_zero _)⟩
  case round =>
    obtain ⟨k, hkn, rfl, hBr, hno⟩ := hrel
    by_cases hlt : k < n
    · obtain ⟨b, o, rfl, c0, c1, c2⟩ := HC.out k hlt
      have hbl := cell_lt c0
      have bb := HB0.out.trans (hBr.mono HB0.out.size)
      have hbl' := hbl
      replace c0 := (bb.cell hbl).trans c0
      replace c1 := (bb.cell hbl).trans c1
      replace c2 := (bb.cell hbl).trans c2
      have hl := HB.out.up hBr
      have d0 : wr.cell? ⟨g, 0, none⟩ = some (.bool un) := hl.cell 0
      have d1 : wr.cell? ⟨g, 1, none⟩ = some (.int .i64 uh) := hl.cell 1
      have d2 : wr.cell? ⟨g, 2, none⟩ = some (.int .i64 ut) := hl.cell 2
      obtain ⟨x, hx⟩ : ∃ x, x = ls.getD k br0 := ⟨_, rfl⟩
      rw [← hx] at c0 c1 c2
      have HX : Hid (x = ls.getD k br0) := hx
      clear hx hl hbl hbl'
      obtain ⟨xn, xh, xt⟩ := x
      have HY : cov1 ⟨un, uh, ut⟩ ⟨xn, xh, xt⟩ = false → Hid (∀ j, j < k + 1 → cov1 ⟨un, uh, ut⟩ (ls.getD j br0) = false) := fun hf j hj => by
        rcases Nat.lt_or_ge j k with q | q
        · exact hno.out j q
        · have : j = k := by omega
          rw [this, ← HX.out]
          exact hf
      have HZ : cov1 ⟨un, uh, ut⟩ ⟨xn, xh, xt⟩ = true → r = true := fun hf => by
        rw [HR.out]
        unfold covP
        rw [List.any_eq_true]
        refine ⟨_, ?_, hf⟩
        rw [HX.out, List.getD_eq_getElem?_getD, List.getElem?_eq_getElem (by rw [← HN.out]; exact hlt)]
        exact List.getElem_mem _
      unfold cov1 at HY HZ
      simp only at HY HZ c0 c1 c2
      by_cases e1 : xn = un
      · subst e1
        have e1' : (xn == xn) = true := by simp
        by_cases e2 : uh ≤ xh
        · have e2' : decide (uh ≤ xh) = true := decide_eq_true e2
          by_cases e3 : ut ≤ xt
          · have e3' : decide (ut ≤ xt) = true := decide_eq_true e3
            have := HZ (by rw [e1', e2', e3']; rfl)
            subst this
            clear HY HZ
            go_wp2_with fail
            go_quiet (fail)
            go_wp2
            go_ret
            exact ⟨rfl, bel_drewN bb _⟩
          · have e3' : decide (ut ≤ xt) = false := decide_eq_false e3
            have hy := HY (by rw [e1', e2', e3']; rfl)
            clear HY HZ
            go_wp2_with fail
            go_quiet (fail)
            go_wp2
            go_roundw
            case rel => exact ⟨k + 1, by omega, by go_num, bel_drewN hBr _, hy⟩
            case measure => simp [intOf]; omega
        · have e2' : decide (uh ≤ xh) = false := decide_eq_false e2
          have hy := HY (by rw [e1', e2']; rfl)
          clear HY HZ
          go_wp2_with fail
          go_quiet (fail)
          go_wp2
          go_roundw
          case rel => exact ⟨k + 1, by omega, by go_num, bel_drewN hBr _, hy⟩
          case measure => simp [intOf]; omega
      · have e1' : (xn == un) = false := by simpa using e1
        have hy := HY (by rw [e1']; rfl)
        clear HY HZ
        go_wp2_with fail
        go_quiet (fail)
        go_wp2
        go_roundw
        case rel => exact ⟨k + 1, by omega, by go_num, bel_drewN hBr _, hy⟩
        case measure => simp [intOf]; omega
    · have hke : k = n := by omega
      have hrf : r = false := by
        rw [HR.out]
        unfold covP
        rw [List.any_eq_false]
        intro x hx
        obtain ⟨j, hj, rfl⟩ := List.mem_iff_getElem.1 hx
        have := hno.out j (by rw [hke, HN.out]; exact hj)
        rw [List.getD_eq_getElem?_getD, List.getElem?_eq_getElem hj] at this
        simpa using this
      subst hrf
      subst hke
      go_wp2
      go_ret
      exact ⟨rfl, HB0.out.trans (hBr.mono HB0.out.size)⟩
end Go.Proofs.Ytcknekfhdggmoaa
