/-
  The walks of copied and told.
-/
import Derived.Test.YtmckdefemdcknaaCt
import Derived.RegionTactic
import Derived.Laws.AppendOwnNone
import Derived.Deep.RegionLaw
namespace Go.Proofs.Ytmckdefemdcknaa
open Go.RowKit
open RowsM

theorem Rd.other {w : World} {so : Option Addr} {xs : List Nat} (h : Rd w so xs) {a : Addr} (ha : xs ≠ [] → ∀ b off, so = some ⟨b, off, none⟩ → b ≠ a.block) (u : Value) : Rd (w.setCell a u) so xs := by
  refine ⟨h.lt, fun hn => ?_⟩
  obtain ⟨b, off, e, hc⟩ := h.pl hn
  refine ⟨b, off, e, fun t ht => ?_⟩
  rw [← hc t ht]
  exact World.cell?_of_block (w := w) (Below.heap_setCell _ _ _ _ (ha hn b off e))

/-- What an append to an empty slice of the call's own leaves. -/
theorem append_words (w : World) (g : Nat) (ao : Option Addr) (cap : Nat) (xs : List Nat) (hg : w.heap[g]? = some (.cells #[] 55 (0, 0))) (h : Rd w ao xs) (hl : xs.length ≤ 17592186043904) (hcap : ao = none → cap = 0) :
    ∃ so c w', (Builtin.append_ #[22, 22] 22 #[.slice (some ⟨g, 0, none⟩) 0 0, .slice ao xs.length cap]).run Try.prog w = .ok (.slice so xs.length c) w' ∧ Rd w' so xs ∧ Below g w w' ∧ (xs ≠ [] → ∀ b off, so = some ⟨b, off, none⟩ → g ≤ b) := by
  obtain ⟨i0, hi, hz0, hz1, hz2⟩ := info_parts Try.infoW
  have hown : w.ownsRow g 55 1 (.slice (some ⟨g, 0, none⟩) 0 0) 0 [] := ⟨rfl, .inr ⟨g, 0, #[], rfl, Nat.le_refl _, hg, Nat.le_refl _, by unfold maxLen; omega, rfl, rfl⟩⟩
  have hgl : g < w.heap.size := by
    rcases Nat.lt_or_ge g w.heap.size with k | k
    · exact k
    · rw [Array.getElem?_eq_none k] at hg; cases hg
  by_cases hz : xs = []
  · subst hz
    cases ao with
    | none =>
      have hc0 := hcap rfl
      subst hc0
      exact ⟨some ⟨g, 0, none⟩, 0, w, run_append_owned_none (P := Try.prog) (w := w) g 22 22 55 i0 1 Try.underS hi _ 0 [] hown, Rd.nil _ _, Below.refl _ _, fun h => absurd rfl h⟩
    | some a =>
      obtain ⟨v', w', hr, ho, hgr, _⟩ := run_append_own (P := Try.prog) w g 22 22 55 i0 (.int .u64 0) 1 8 Try.underS hi hz0 hz1 hz2 rfl (by decide) _ 0 [] hown a 0 cap [] rfl (by simp) (by simp) (by unfold maxLen; omega) (by omega) (by omega)
      have hb := (Below.refl g w).grown hgr (by omega) (by intro k hk; simp [Value.ownBlock] at hk; omega)
      rcases ho.2 with ⟨rfl, _⟩ | ⟨g', c, cur, rfl, _⟩
      · exact ⟨none, 0, w', hr, Rd.nil _ _, hb, fun h => absurd rfl h⟩
      · exact ⟨some ⟨g', 0, none⟩, c, w', hr, Rd.nil _ _, hb, fun h => absurd rfl h⟩
  · obtain ⟨b, off, rfl, hc⟩ := h.pl hz
    obtain ⟨v', w', hr, ho, hgr, _⟩ := run_append_own (P := Try.prog) w g 22 22 55 i0 (.int .u64 0) 1 8 Try.underS hi hz0 hz1 hz2 rfl (by decide) _ 0 [] hown ⟨b, off, none⟩ xs.length cap (xs.map fun z : Nat => Value.int .u64 z) (by simp) (src_cells hc) (one_cells xs) (by unfold maxLen; omega) (by omega) (by omega)
    rw [Nat.zero_add, List.nil_append] at ho
    rcases ho.2 with ⟨_, h0⟩ | ⟨g', c, cur, rfl, hgg, hcur, hle, _, hcs, htake⟩
    · exact absurd (List.length_eq_zero_iff.1 h0) hz
    · refine ⟨some ⟨g', 0, none⟩, c, w', hr, ⟨h.lt, fun _ => ⟨g', 0, rfl, fun t ht => ?_⟩⟩, ?_, fun _ b off e => ?_⟩
      · rw [Nat.zero_add, cell_of_row w' g' t _ _ _ hcur]
        have e : cur[t]? = (cur.toList.take (xs.length * 1))[t]? := by rw [List.getElem?_take, if_pos (by omega)]; simp
        rw [e, htake]
        simp [ht]
      · exact (Below.refl g w).grown hgr (by omega) (by intro k hk; simp [Value.ownBlock] at hk; omega)
      · simp only [Option.some.injEq, Addr.mk.injEq] at e
        omega

/-- An append whose run is known, as a step of a region that draws its order. -/
theorem step_append_run {P : Program} {ops : Array Oper} {o : Oper} {a : Act} {w : World} {K : Act → World → Prop} {Q : Exit → Act → World → Prop} {E : Prop}
    (hg : o.guard = none) (s x : Operand) (t : TypeId) (hop : o.op = Op.call { callee := Callee.builtin Builtin.append, args := #[s, x], argTypes := #[t, t] }) (hty : o.type = t)
    (v u : Value) (hs : a.eval s = v) (hx : a.eval x = u) (v' : Value) (w' : World) (hrun : (Builtin.append_ #[t, t] t #[v, u]).run P w = .ok v' w') (hK : K (a.put o.dst v') w') :
    if Region.wanted o (yielded ops a.tmps) = true then Oper.wp P o a w K Q else E := by
  have hw : Region.wanted o (yielded ops a.tmps) = true := by simp [Region.wanted, hg]
  rw [if_pos hw]
  rw [← hty] at hrun
  unfold Oper.wp
  rw [hty] at hrun
  simp [execOp, hop, resolve, invoke, builtin, hs, hx, hty, hrun, Result.andThen]
  exact hK

set_option maxHeartbeats 1000000 in
theorem copied_any (n : Int) (ao : Option Addr) (ca : Nat) (xs : List Nat) (w : World) (h : Rd w ao xs) (hl : xs.length ≤ 17592186043904) (hcap : ao = none → ca = 0) :
    Calls Try.prog 15 #[.agg #[.int .i64 n, .slice ao xs.length ca]] w fun e w' => ∃ so c, e = .returned (.agg #[.int .i64 n, .slice so xs.length c]) ∧ Rd w' so xs ∧ Below w.heap.size w w' := by
  obtain ⟨s1, s3⟩ := st_two w (.int .i64 n) (.slice ao xs.length ca) (.int .i64 0) (.slice none 0 0)
  have b2 := below_two w (.cells #[.int .i64 n, .slice ao xs.length ca] 24) (.cells #[.int .i64 0, .slice none 0 0] 24)
  have h2 := h.up b2
  clear h
  have h3 := (h2.alloc (.cells #[] 55))
  have s1' := s1.alloc (.cells #[] 55)
  have s3' := s3.alloc (.cells #[] 55)
  have b3 := Below.thn b2 (below_alloc _ (.cells #[] 55))
  have hg : (((w.alloc (.cells #[.int .i64 n, .slice ao xs.length ca] 24)).alloc (.cells #[.int .i64 0, .slice none 0 0] 24)).alloc (.cells #[] 55)).drew.heap[w.heap.size + 1 + 1]? = some (.cells #[] 55 (0, 0)) := by
    have := heap_alloc_new ((w.alloc (.cells #[.int .i64 n, .slice ao xs.length ca] 24)).alloc (.cells #[.int .i64 0, .slice none 0 0] 24)) (.cells #[] 55)
    have e : ((w.alloc (.cells #[.int .i64 n, .slice ao xs.length ca] 24)).alloc (.cells #[.int .i64 0, .slice none 0 0] 24)).heap.size = w.heap.size + 1 + 1 := by simp
    rw [e] at this
    exact this
  obtain ⟨so, c, w', hr, hrd, hb, hso⟩ := append_words _ _ ao ca xs hg ⟨h3.lt, h3.pl⟩ hl hcap
  obtain ⟨c0, c1, _, _⟩ := s1.cells
  obtain ⟨c0', c1', _, _⟩ := s1'.cells
  obtain ⟨q0, q1, q2, q3⟩ := s3'.cells
  have hres : w'.cell? ⟨w.heap.size + 1, 0, none⟩ = some (.int .i64 0) ∧ w'.cell? ⟨w.heap.size + 1, 1, none⟩ = some (.slice none 0 0) ∧ w'.frozen? ⟨w.heap.size + 1, 0, none⟩ = false ∧ w'.frozen? ⟨w.heap.size + 1, 1, none⟩ = false := by
    refine ⟨?_, ?_, ?_, ?_⟩
    · rw [hb.cell (by show w.heap.size + 1 < w.heap.size + 1 + 1; omega)]; exact q0
    · rw [hb.cell (by show w.heap.size + 1 < w.heap.size + 1 + 1; omega)]; exact q1
    · rw [hb.frozen (by show w.heap.size + 1 < w.heap.size + 1 + 1; omega)]; exact q2
    · rw [hb.frozen (by show w.heap.size + 1 < w.heap.size + 1 + 1; omega)]; exact q3
  obtain ⟨r0, r1, r2, r3⟩ := hres
  have t0 : w'.cell? ⟨w.heap.size, 0, none⟩ = some (.int .i64 n) := by rw [hb.cell (by show w.heap.size < w.heap.size + 1 + 1; omega)]; exact c0'
  have b4 : Below w.heap.size w w' := b3.drew.trans (hb.mono (Nat.le_trans (Nat.le_succ _) (Nat.le_succ _)))
  have HR : Hid (_ = _) := hr
  clear s1 h2 h3 hr hg hb q0 q1 q2 q3
  go_enter Try.func15, Try.ntmps15
  go_wp2
  go_region_law (refine step_append_run rfl (.tmp 5) (.tmp 7) 22 rfl rfl _ _ (by simp [Act.eval]) (by simp [Act.eval]) _ _ (show _ = _ from HR) ?_)
  all_goals
    go_wp2
    refine bodyPost_ret (v := .agg #[.int .i64 n, .slice so xs.length c]) (by simp [results, Try.results15, go_sem, r0, r1]) rfl ⟨so, c, rfl, ?_, ?_⟩
    · refine (hrd.other ?_ _).other ?_ _
      · intro h b off e; have := hso h b off e; show b ≠ w.heap.size + 1; omega
      · intro h b off e; have := hso h b off e; show b ≠ w.heap.size + 1; omega
    · exact (b4.setCell (Nat.le_succ _) _).setCell (Nat.le_succ _) _

set_option maxHeartbeats 1000000 in
theorem told_any (n m : Int) (ao bo : Option Addr) (ca cb : Nat) (xs ys : List Nat) (e f : Int) (w : World) (h : Rd w ao xs) (g : Rd w bo ys) (hl : xs.length ≤ 17592186043904) (gl : ys.length ≤ 17592186043904) :
    Calls Try.prog 13 #[.agg #[.int .i64 n, .slice ao xs.length ca], .int .i64 e, .agg #[.int .i64 m, .slice bo ys.length cb], .int .i64 f] w fun r w' => r = .returned (.bool ((e == f) && sameR n m xs ys)) ∧ Below w.heap.size w w' := by
  obtain ⟨s1, s2⟩ := st_two w (.int .i64 n) (.slice ao xs.length ca) (.int .i64 m) (.slice bo ys.length cb)
  have b2 := below_two w (.cells #[.int .i64 n, .slice ao xs.length ca] 24) (.cells #[.int .i64 m, .slice bo ys.length cb] 24)
  have h2 := h.up b2
  have g2 := g.up b2
  clear h g
  have hsm := same_any n m ao bo ca cb xs ys _ h2 g2 hl gl
  obtain ⟨c0, c1, _, _⟩ := s1.cells
  obtain ⟨d0, d1, _, _⟩ := s2.cells
  clear s1 s2
  by_cases hef : e = f
  · have e1 : (e == f) = true := by simpa using hef
    rw [e1, Bool.true_and]
    subst hef
    clear e1
    go_enter Try.func13, Try.ntmps13
    go_wp2_with fail
    refine hsm.mono ?_
    rintro r w1 ⟨rfl, hb⟩
    have b3 := Below.thn b2 hb
    clear hsm hb c0 c1 d0 d1
    go_wp2
    go_ret
    exact ⟨rfl, b3⟩
  · have e1 : (e == f) = false := by simpa using hef
    rw [e1, Bool.false_and]
    clear hsm
    go_enter Try.func13, Try.ntmps13
    go_wp2
    go_ret
    exact ⟨rfl, b2⟩
end Go.Proofs.Ytmckdefemdcknaa
