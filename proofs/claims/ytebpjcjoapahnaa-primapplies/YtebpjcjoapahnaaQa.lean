/-
  The walk of PrimApplies.
-/
import Derived.Test.YtebpjcjoapahnaaPz
namespace Go.Proofs.Ytebpjcjoapahnaa
open Go.RowKit
set_option maxRecDepth 100000

theorem take_rv {qs : List Qi} {k : Nat} (hk : k < qs.length) : (qs.take (k + 1)).map (·.2.2.rv) = (qs.take k).map (·.2.2.rv) ++ [(qs.getD k qi0).2.2.rv] := by
  rw [List.take_succ_eq_append_getElem hk, List.map_append, List.getD_eq_getElem?_getD, List.getElem?_eq_getElem hk]; rfl

set_option maxHeartbeats 4000000 in
theorem primApplies_any (op : Int) (ao : Option Addr) (cap : Nat) (qs : List Qi) (w : World) (h : Qs w ao qs) (hn : qs.length < 2500000000000 ∧ ∀ i ∈ qs, i.2.2.l.length ≤ 5864062014806) :
    Calls Try.prog 3 #[.int .i64 op, .slice ao qs.length cap] w fun e w' => e = .returned (.bool true) ∧ Below w.heap.size w w' := by
  obtain ⟨hn1, hn2⟩ := hn
  obtain ⟨n, hnn⟩ : ∃ n, Hid (n = qs.length) := ⟨_, rfl⟩
  rw [← hnn.out] at hn1 ⊢
  have HQ : Hid (Qs w ao qs) := h
  have HN : Hid (∀ i ∈ qs, i.2.2.l.length ≤ 5864062014806) := hn2
  have t1 := fun W => takes_any op W
  have t2 := fun W => rtakes_any op W
  generalize tkN op = N at *
  generalize tkT op = K at *
  clear h hn2
  go_enter Try.func3, Try.ntmps3
  go_wp2_with fail
  refine (awake10_any _).mono ?_
  rintro e W ⟨rfl, hbW⟩
  go_wp2_with (first | (go_at_call 9; refine (t1 _).mono ?_; rintro e w' ⟨rfl, hw'⟩; rw [hw']; clear hw') | (go_at_call 10; refine (t2 _).mono ?_; rintro e w' ⟨rfl, hw'⟩; rw [hw']; clear hw'))
  clear t1 t2
  go_loopw [9, 10] (fun v i wr => ∃ (k : Nat) (x9 : Option Addr) (y9 : Nat) (its : List Ai), k ≤ n ∧ v = .slice x9 k y9 ∧ i = .int .i64 k ∧ Below W.heap.size W wr ∧ Hid (AR wr W.heap.size (.slice x9 k y9) its) ∧ Hid (its.map (·.2.2) = (qs.take k).map (·.2.2.rv))) (fun _ i _ => n - (intOf i).toNat)
  case atStart => exact ⟨0, none, 0, [], Nat.zero_le _, rfl, rfl, Below.refl _ _, AR.nil _ _, rfl⟩
  case round =>
    obtain ⟨k, x9, y9, its, hkn, rfl, rfl, hB, hA, hI⟩ := hrel
    by_cases hlt : k < n
    · have hk : k < qs.length := by rw [← hnn.out]; exact hlt
      have hQ := (HQ.out.up hbW).up hB
      obtain ⟨bb, off, rfl, hq⟩ := hQ.pl (by intro e; rw [e] at hk; simp at hk)
      have q7 := hq k hk
      have hl := HN.out _ (getD_mem (d := qi0) hk)
      have HT : Hid ((qs.take (k + 1)).map (·.2.2.rv) = (qs.take k).map (·.2.2.rv) ++ [(qs.getD k qi0).2.2.rv]) := take_rv hk
      generalize qs.getD k qi0 = i at *
      obtain ⟨ai, ci, q⟩ := i
      simp only at *
      obtain ⟨c0, c1, c2, c3, c4, c5, nr⟩ := q7
      simp only at *
      have hV := valVo_any q ai ci wr nr hl
      unfold qV at hV
      have hkl := (hA.out.ar).1
      have HL : Hid (its.length = k) := hkl.symm
      clear hkl hq hQ nr hl hk
      go_wp2_with fail
      refine hV.mono ?_
      rintro e w1 ⟨a1, c1', rfl, hvr, how, hb1⟩
      have hAW : AW w1 W.heap.size (a1, c1', q.rv) := ⟨(rv_lt q).1, (rv_lt q).2, owns_mono how hB.size, hvr.n⟩
      obtain ⟨v9, w9, r9, o9, k9⟩ := own_rv w1 W.heap.size (.slice x9 k y9) its (a1, c1', q.rv) (hA.out.up hb1) hAW (Nat.le_trans hB.size hb1.size) (by rw [HL.out]; omega)
      obtain ⟨p9, q9, e9, _, _⟩ := owns_slice o9.row
      rw [List.length_append, List.length_singleton, HL.out] at e9
      subst e9
      have R9 : Hid (_ = _) := r9
      have O9 : Hid (AR w9 W.heap.size (.slice p9 (k + 1) q9) (its ++ [(a1, c1', q.rv)])) := o9
      have b9 : Below W.heap.size W w9 := (hB.trans (hb1.mono hB.size)).trans k9.low
      clear r9 o9 hV hvr how hAW c0 c1 c2 c3 c4 c5
      unfold vV
      simp only at R9
      generalize q.rv = u at *
      obtain ⟨ut, ⟨ux, uy⟩, ur, uz⟩ := u
      simp only at R9
      go_wp2_with (at_builtin; refine wpList_append_run rfl (.tmp 33) (.tmp 39) 28 rfl rfl (.slice x9 k y9) (.slice (some ⟨w1.heap.size, 0, none⟩) 1 1) rfl rfl (.slice p9 (k + 1) q9) w9 (show _ = _ from R9) ?_)
      go_roundw
      case rel => exact ⟨k + 1, p9, q9, its ++ [(a1, c1', ⟨ut, (ux, uy), ur, uz⟩)], by omega, rfl, by go_num, b9, O9, by show _ = _; rw [HT.out, List.map_append, hI.out]; rfl⟩
      case measure => simp [intOf]; omega
    · have hke : k = n := by omega
      subst hke
      obtain ⟨hkl, hAr⟩ := hA.out.ar
      have HL : Hid (its.length < 2500000000000) := by show _ < _; omega
      have h1 := apply_any op x9 y9 its wr hAr (by have := HL.out; omega)
      have h2 := fun X (hX : Below wr.heap.size wr X) => rapply_any op x9 y9 its X (hAr.up hX) HL.out
      have h3 := fun X => whole_ap op (its.map (·.2.2)) X
      rw [vV_agg _ (apV_zs _ _)] at h1
      rw [← hkl] at h1 h2
      generalize apE op (its.map (·.2.2)) = E at *
      generalize apV op (its.map (·.2.2)) = u at *
      obtain ⟨ut, ⟨ux, uy⟩, ur, uz⟩ := u
      simp only at h1 h2 h3
      clear hkl hAr hA HL hI
      have hcx := store_cx
      go_wp2_with fail
      refine h1.mono ?_
      rintro e w5 ⟨rfl, hb5⟩
      go_wp2_with fail
      refine (h2 _ (Below.thn hb5 (below_alloc _ _))).mono ?_
      rintro e w6 ⟨rfl, hb6⟩
      have g1 := (Bk.new w5 32 #[.int .i64 ut, .complex .f64 ux uy, .bool ur, .slice none 0 0]).up hb6
      have e10 : w6.cell? ⟨w5.heap.size, 0, none⟩ = some (.int .i64 ut) := g1.cell 0
      have e11 : w6.cell? ⟨w5.heap.size, 1, none⟩ = some (.complex .f64 ux uy) := g1.cell 1
      have e12 : w6.cell? ⟨w5.heap.size, 2, none⟩ = some (.bool ur) := g1.cell 2
      have e13 : w6.cell? ⟨w5.heap.size, 3, none⟩ = some (.slice none 0 0) := g1.cell 3
      have hl1 := g1.lt
      have bb := Below.thn hbW (Below.thn hB (Below.thn hb5 (Below.thn (below_alloc w5 (.cells #[.int .i64 ut, .complex .f64 ux uy, .bool ur, .slice none 0 0] 32)) (Below.thn hb6 (below_alloc w6 (.cells #[.int .i64 ut, .complex .f64 ux uy, .bool ur, .slice none 0 0] 32))))))
      go_wp2_with (go_at_call 14; (with_reducible refine Calls.mono (h3 _) ?_); rintro e w7 ⟨rfl, hb7⟩)
      go_ret
      exact ⟨rfl, Below.thn bb hb7⟩
end Go.Proofs.Ytebpjcjoapahnaa
