/-
  The walk of ValueLine.
-/
import Derived.Test.YtbgggbkmnfppoaaGreatDoorVz
import Derived.Test.YtbgggbkmnfppoaaGreatDoorVw
namespace Go.Proofs.YtbgggbkmnfppoaaGreatDoor
open Go.RowKit
set_option maxRecDepth 100000

theorem SR.kt {w w' : World} {B C : Nat} {T : TypeId} {v : Value} {its : List It} (h : SR w C v its) (hK : Kt B T w w') (h1 : 35 ≠ T) (h2 : 32 ≠ T) : SR w' C v its :=
  ⟨owns_kt h.row hK h1, fun i hi => ⟨(h.its i hi).ok, owns_kt (h.its i hi).own hK h2, (h.its i hi).n⟩⟩

def sumQ (l : List Qi) : Nat := (l.map fun i => i.2.2.l.length + 1).sum
theorem sumQ_take {l : List Qi} {k : Nat} (h : k < l.length) : sumQ (l.take (k + 1)) = sumQ (l.take k) + ((l.getD k qi0).2.2.l.length + 1) := by
  unfold sumQ
  rw [List.take_succ_eq_append_getElem h, List.map_append, List.sum_append, List.getD_eq_getElem?_getD, List.getElem?_eq_getElem h]
  simp
theorem sumQ_le (l : List Qi) (k : Nat) : sumQ (l.take k) ≤ sumQ l := by
  unfold sumQ
  conv => rhs; rw [← List.take_append_drop k l, List.map_append, List.sum_append]
  omega
theorem sumQ_mem {l : List Qi} {k : Nat} (h : k < l.length) : (l.getD k qi0).2.2.l.length ≤ sumQ l := by
  have h1 := sumQ_take h
  have h2 := sumQ_le l (k + 1)
  omega
theorem sumQ_len (l : List Qi) : l.length ≤ sumQ l := by
  unfold sumQ
  induction l with
  | nil => simp
  | cons a r ih => simp only [List.map_cons, List.sum_cons, List.length_cons]; omega

/-- What the loop has come to: the line, the values. -/
structure LnW (wr : World) (B : Nat) (s5 s6 : Value) (ls : List (Nat × Vl)) (its : List It) : Prop where
  ln : OwB wr B s5 (lineOf ls)
  wt : SR wr B s6 its
  eq : its.map (·.2.2) = ls.map (·.2)
  ok : ∀ i ∈ ls, 0 < i.1 ∧ okV i.2
theorem LnW.up {wr w' : World} {B : Nat} {s5 s6 : Value} {ls : List (Nat × Vl)} {its : List It} (h : LnW wr B s5 s6 ls its) (hb : Below wr.heap.size wr w') : LnW w' B s5 s6 ls its := ⟨owns_up h.ln hb, h.wt.up hb, h.eq, h.ok⟩

set_option maxHeartbeats 8000000 in
theorem valueLine_any (l : List Qi) (gs : List UInt8) (a1 a2 : Option Addr) (c1 c2 : Nat) (w : World) (hE : Env w) (h1 : Qs w a1 l) (h2 : Bd w a2 gs) (hl : sumQ l ≤ 2097152) (hg : gs.length ≤ 2097152) :
    Calls Tryz.prog 6 #[.slice a1 l.length c1, .slice a2 gs.length c2] w fun e w' => e = .returned (.bool true) ∧ Below w.heap.size w w' := by
  have hln := sumQ_len l
  obtain ⟨n, hn⟩ : ∃ n, Hid (n = l.length) := ⟨_, rfl⟩
  rw [← hn.out] at hln ⊢
  have H1 : Hid (Qs w a1 l) := h1
  have H2 : Hid (Bd w a2 gs) := h2
  clear h1 h2
  go_enter Tryz.func6, Tryz.ntmps6
  go_wp2_with fail
  refine (awake9_any _ hE).mono ?_
  rintro e w1 ⟨rfl, hb1⟩
  have H3 : Hid (Qs w1 a1 l) := H1.out.up hb1
  have H4 : Hid (Bd w1 a2 gs) := H2.out.up hb1
  have hE1 := env_keep hE hb1
  clear H1 H2
  go_wp2_with fail
  go_loopw [5, 6, 7] (fun s5 s6 i wr => ∃ (k : Nat) (ls : List (Nat × Vl)) (its : List It), k ≤ n ∧ i = .int .i64 k ∧ its.length ≤ k ∧ (lineOf ls).length ≤ 25 * sumQ (l.take k) ∧ Below w1.heap.size w1 wr ∧ Hid (LnW wr w1.heap.size s5 s6 ls its)) (fun _ _ i _ => n - (RowKit.intOf i).toNat)
  case atStart => exact ⟨0, [], [], Nat.zero_le _, rfl, Nat.le_refl _, by simp [lineOf], Below.refl _ _, ⟨⟨rfl, .inl ⟨rfl, rfl⟩⟩, ⟨⟨rfl, .inl ⟨rfl, rfl⟩⟩, fun i hi => by simp at hi⟩, rfl, fun i hi => by simp at hi⟩⟩
  case round =>
    obtain ⟨k, ls, its, hkn, rfl, hik, hlk, hB, hL⟩ := hrel
    by_cases hlt : k < n
    · have hk : k < l.length := by rw [← hn.out]; exact hlt
      have hst := sumQ_take hk
      have hsm := sumQ_mem hk
      have hsl := sumQ_le l (k + 1)
      obtain ⟨b, off, rfl, hc⟩ := H3.out.pl (by intro e; rw [e] at hk; simp at hk)
      have hQ0 := hc k hk
      obtain ⟨qi, hqi⟩ : ∃ qi, qi = l.getD k qi0 := ⟨_, rfl⟩
      rw [← hqi] at hQ0 hst hsm
      obtain ⟨xa, xc, q⟩ := qi
      have hQ1 := hQ0.up hB
      have hvo := fun W (hW : Nr W xa q.l) => valVo_any q xa xc W hW (by simp only at hsm; omega)
      obtain ⟨tx, htx⟩ := txR_fun q.rv
      obtain ⟨kk, hkk⟩ : ∃ kk : Int, Hid (kk = if soundV q.rv then 0 else 3) := ⟨_, rfl⟩
      rw [← hkk.out] at htx
      have HX : Hid (∀ e, txR q.rv e → e = .returned (.tuple #[.string (bs tx), .int .i64 kk])) := htx
      have hTA : ∀ u, okV u → q.rv = ofV u → tx = txV u := by
        intro u hu e
        have := htx _ (txR_yes hu e rfl)
        simp only [Ending.returned.injEq, Value.tuple.injEq, Array.mk.injEq, List.cons.injEq, Value.string.injEq] at this
        have h2 := congrArg (fun b => b.data.toList) this.1
        simpa [bs] using h2.symm
      have HQ : Hid (Q7 w1 b (off + k * 6) (xa, xc, q)) := hQ0
      obtain ⟨d0, d1, d2, d3, d4, d5, dn⟩ := hQ1
      simp only at d0 d1 d2 d3 d4 d5 dn hst
      clear hc htx hqi hQ0 H3 hk
      unfold qV at hvo
      go_wp2_with fail
      refine (hvo _ dn).mono ?_
      rintro e w2 ⟨x2, y2, rfl, v2, _, hb2⟩
      have B2 : Below w1.heap.size w1 w2 := hB.trans (hb2.mono hB.size)
      go_wp2_with fail
      refine (text_any q.rv x2 y2 w2 (env_keep hE1 B2).tab v2).mono ?_
      rintro e w3 ⟨ht3, hb3⟩
      have e3 := HX.out _ ht3
      subst e3
      have B3 : Below w1.heap.size w1 w3 := B2.trans (hb3.mono B2.size)
      have L3 : Hid (LnW w3 w1.heap.size u5 u6 ls its) := hL.out.up (Below.thn hb2 hb3)
      clear ht3 v2 hL d0 d1 d2 d3 d4 d5 dn HX
      cases hs : soundV q.rv with
      | false =>
        have hk3 : kk = 3 := by rw [hkk.out, hs]; rfl
        subst hk3
        clear hkk
        go_wp2_with fail
        go_roundw
        case rel => exact ⟨k + 1, ls, its, by omega, by go_num, by omega, by omega, B3, L3⟩
        case measure => simp [RowKit.intOf]; omega
      | true =>
        have hk3 : kk = 0 := by rw [hkk.out, hs]; rfl
        subst hk3
        obtain ⟨u, hu, eu⟩ := sound_is hs
        have htu := hTA u hu eu
        have htl := txV_len hu
        rw [← eu, ← htu] at htl
        have hzl : q.rv.zs.length = q.l.length := List.length_map _
        rw [hzl] at htl
        have HU : Hid (okV u ∧ q.rv = ofV u ∧ tx = txV u) := ⟨hu, eu, htu⟩
        clear hkk hTA eu htu hu hs hzl
        by_cases hgk : k < gs.length
        · have H5 := H4.out
          obtain ⟨bg, og, rfl, hcg⟩ := H5.pl (by intro e; rw [e] at hgk; simp at hgk)
          have hcg2 := (B3.cell (cell_lt (hcg k hgk))).trans (hcg k hgk)
          obtain ⟨gb, hgb⟩ : ∃ gb, gb = gs.getD k 0 := ⟨_, rfl⟩
          rw [← hgb] at hcg2
          have hg8 : gb.toNat < 256 := gb.toNat_lt
          clear hcg hgb H5
          go_upto_region 13 with fail
          rw [show ((gb.toNat : Int) % 3 + 1) = ((gb.toNat % 3 + 1 : Nat) : Int) by omega]
          obtain ⟨m, hm⟩ : ∃ m, m = gb.toNat % 3 + 1 := ⟨_, rfl⟩
          rw [← hm]
          have hm0 : 0 < m := by omega
          have hm3 : m ≤ 3 := by omega
          have HM : Hid (0 < m) := hm0
          clear hm hg8 hcg2
          have hO3 : Hid (OwB w3 w1.heap.size u5 (lineOf ls ++ List.replicate 0 32)) := by
            show OwB _ _ _ _
            rw [List.replicate_zero, List.append_nil]
            exact L3.out.ln
          have hS3 : Hid (SR w3 w1.heap.size u6 its) := L3.out.wt
          have HEQ : Hid (its.map (·.2.2) = ls.map (·.2) ∧ ∀ i ∈ ls, 0 < i.1 ∧ okV i.2) := ⟨L3.out.eq, L3.out.ok⟩
          clear L3
          go_wp2_with fail
          go_loopw [5, 11] (fun s i wx => ∃ j : Nat, j ≤ m ∧ i = .int .i64 j ∧ Below w1.heap.size w1 wx ∧ Hid (OwB wx w1.heap.size s (lineOf ls ++ List.replicate j 32)) ∧ Hid (SR wx w1.heap.size u6 its)) (fun _ i _ => m - (RowKit.intOf i).toNat)
          case atStart => exact ⟨0, Nat.zero_le _, rfl, B3, hO3, hS3⟩
          case round =>
            obtain ⟨j, hjm, rfl, hBx, hOx, hSx⟩ := hrel
            by_cases hj : j < m
            · have hj2 : (j : Int) < (m : Int) := by omega
              have hll : (lineOf ls ++ List.replicate j 32).length < 140737488355328 := by rw [List.length_append, List.length_replicate]; omega
              obtain ⟨v9, w9, r9, o9, k9⟩ := own_byte _ _ _ _ 32 hOx.out hBx.size hll
              have R9 : Hid (_ = _) := r9
              have O9 : Hid (OwB w9 w1.heap.size v9 (lineOf ls ++ List.replicate (j + 1) 32)) := by
                show OwB _ _ _ _
                rw [List.replicate_succ', ← List.append_assoc]
                exact o9
              have S9 : Hid (SR w9 w1.heap.size u6 its) := hSx.out.kt k9 (by decide) (by decide)
              have b9 := hBx.trans k9.low
              clear r9 o9 k9
              go_wp2_with (at_builtin; refine wpList_append_run rfl (.tmp 50) (.tmp 51) 55 rfl rfl _ _ rfl rfl _ _ (show _ = _ from R9) ?_)
              go_roundw
              case rel => exact ⟨j + 1, by omega, by go_num, b9, O9, S9⟩
              case measure => simp [RowKit.intOf]; omega
            · have hje : j = m := by omega
              have hj2 : ¬ (j : Int) < (m : Int) := by omega
              have hll : (lineOf ls ++ List.replicate j 32).length + tx.length ≤ 140737488355328 := by rw [List.length_append, List.length_replicate]; omega
              obtain ⟨v9, w9, r9, o9, k9⟩ := own_str _ _ _ _ tx hOx.out hBx.size hll
              have R9 : Hid (_ = _) := r9
              have O9 : Hid (OwB w9 w1.heap.size v9 (lineOf (ls ++ [(m, u)]))) := by
                show OwB _ _ _ _
                rw [lineOf_snoc, ← hje, ← HU.out.2.2]
                exact o9
              have S9 : Hid (SR w9 w1.heap.size u6 its) := hSx.out.kt k9 (by decide) (by decide)
              have b9 := hBx.trans k9.low
              obtain ⟨d0, d1, d2, d3, d4, d5, dn⟩ := HQ.out.up b9
              simp only at d0 d1 d2 d3 d4 d5 dn
              clear r9 o9 k9 hOx hSx hO3 hS3
              go_wp2_with (at_builtin; refine wpList_append_str rfl (.tmp 53) (.tmp 54) 55 9 rfl rfl _ _ rfl rfl _ _ (show _ = _ from R9) ?_)
              refine (hvo _ dn).mono ?_
              rintro e wv ⟨xv, yv, rfl, vv, ov, hbv⟩
              have bv : Below w1.heap.size w1 wv := b9.trans (hbv.mono b9.size)
              have hit : ItW wv w1.heap.size (xv, yv, u) := by
                refine ⟨HU.out.1, ?_, ?_⟩
                · show OwZ _ _ _ _
                  simp only
                  rw [← HU.out.2.1]
                  exact owns_mono ov b9.size
                · simp only
                  rw [← HU.out.2.1]
                  exact vv.n
              obtain ⟨vz, wz', rz, sz, kz⟩ := own_val wv w1.heap.size u6 its (xv, yv, u) (S9.out.up hbv) hit bv.size (by omega)
              rw [show (itC (xv, yv, u)).toArray = #[.int .i64 (ofV u).t, .complex .f64 (ofV u).z.1 (ofV u).z.2, .bool (ofV u).r, .slice xv (ofV u).zs.length yv] from rfl, ← HU.out.2.1] at rz
              have RZ : Hid (_ = _) := rz
              have OZ : Hid (LnW wz' w1.heap.size v9 vz (ls ++ [(m, u)]) (its ++ [(xv, yv, u)])) := by
                refine ⟨owns_kt (owns_up O9.out hbv) kz (by decide), sz, ?_, ?_⟩
                · rw [List.map_append, List.map_append, HEQ.out.1]; rfl
                · intro i hi
                  rcases List.mem_append.1 hi with h | h
                  · exact HEQ.out.2 i h
                  · rw [List.mem_singleton.1 h]; exact ⟨HM.out, HU.out.1⟩
              have bz := bv.trans kz.low
              have hll2 : (lineOf (ls ++ [(m, u)])).length ≤ 25 * sumQ (l.take (k + 1)) := by
                rw [lineOf_snoc, List.length_append, List.length_append, List.length_replicate, hst, ← HU.out.2.2]
                omega
              clear rz sz kz vv ov hit O9 S9 d0 d1 d2 d3 d4 d5 dn
              unfold vV
              go_wp2_with (at_builtin; refine wpList_append_run rfl (.tmp 56) (.tmp 62) 47 rfl rfl _ _ rfl rfl _ _ (show _ = _ from RZ) ?_)
              go_roundw
              case rel => exact ⟨k + 1, ls ++ [(m, u)], its ++ [(xv, yv, u)], by omega, by go_num, by rw [List.length_append]; simp; omega, hll2, bz, OZ⟩
              case measure => simp [RowKit.intOf]; omega
        · go_upto_region 13 with fail
          obtain ⟨m, hm⟩ : ∃ m, Hid (m = 1) := ⟨1, rfl⟩
          have hm0 : 0 < m := by rw [hm.out]; decide
          have hm3 : m ≤ 3 := by rw [hm.out]; decide
          have hmi : (m : Int) = 1 := by rw [hm.out]; rfl
          rw [show Value.int IntKind.i64 1 = Value.int IntKind.i64 (m : Int) by rw [hmi]]
          have HM : Hid (0 < m) := hm0
          clear hmi
          have hO3 : Hid (OwB w3 w1.heap.size u5 (lineOf ls ++ List.replicate 0 32)) := by
            show OwB _ _ _ _
            rw [List.replicate_zero, List.append_nil]
            exact L3.out.ln
          have hS3 : Hid (SR w3 w1.heap.size u6 its) := L3.out.wt
          have HEQ : Hid (its.map (·.2.2) = ls.map (·.2) ∧ ∀ i ∈ ls, 0 < i.1 ∧ okV i.2) := ⟨L3.out.eq, L3.out.ok⟩
          clear L3
          go_wp2_with fail
          go_loopw [5, 11] (fun s i wx => ∃ j : Nat, j ≤ m ∧ i = .int .i64 j ∧ Below w1.heap.size w1 wx ∧ Hid (OwB wx w1.heap.size s (lineOf ls ++ List.replicate j 32)) ∧ Hid (SR wx w1.heap.size u6 its)) (fun _ i _ => m - (RowKit.intOf i).toNat)
          case atStart => exact ⟨0, Nat.zero_le _, rfl, B3, hO3, hS3⟩
          case round =>
            obtain ⟨j, hjm, rfl, hBx, hOx, hSx⟩ := hrel
            by_cases hj : j < m
            · have hj2 : (j : Int) < (m : Int) := by omega
              have hll : (lineOf ls ++ List.replicate j 32).length < 140737488355328 := by rw [List.length_append, List.length_replicate]; omega
              obtain ⟨v9, w9, r9, o9, k9⟩ := own_byte _ _ _ _ 32 hOx.out hBx.size hll
              have R9 : Hid (_ = _) := r9
              have O9 : Hid (OwB w9 w1.heap.size v9 (lineOf ls ++ List.replicate (j + 1) 32)) := by
                show OwB _ _ _ _
                rw [List.replicate_succ', ← List.append_assoc]
                exact o9
              have S9 : Hid (SR w9 w1.heap.size u6 its) := hSx.out.kt k9 (by decide) (by decide)
              have b9 := hBx.trans k9.low
              clear r9 o9 k9
              go_wp2_with (at_builtin; refine wpList_append_run rfl (.tmp 50) (.tmp 51) 55 rfl rfl _ _ rfl rfl _ _ (show _ = _ from R9) ?_)
              go_roundw
              case rel => exact ⟨j + 1, by omega, by go_num, b9, O9, S9⟩
              case measure => simp [RowKit.intOf]; omega
            · have hje : j = m := by omega
              have hj2 : ¬ (j : Int) < (m : Int) := by omega
              have hll : (lineOf ls ++ List.replicate j 32).length + tx.length ≤ 140737488355328 := by rw [List.length_append, List.length_replicate]; omega
              obtain ⟨v9, w9, r9, o9, k9⟩ := own_str _ _ _ _ tx hOx.out hBx.size hll
              have R9 : Hid (_ = _) := r9
              have O9 : Hid (OwB w9 w1.heap.size v9 (lineOf (ls ++ [(m, u)]))) := by
                show OwB _ _ _ _
                rw [lineOf_snoc, ← hje, ← HU.out.2.2]
                exact o9
              have S9 : Hid (SR w9 w1.heap.size u6 its) := hSx.out.kt k9 (by decide) (by decide)
              have b9 := hBx.trans k9.low
              obtain ⟨d0, d1, d2, d3, d4, d5, dn⟩ := HQ.out.up b9
              simp only at d0 d1 d2 d3 d4 d5 dn
              clear r9 o9 k9 hOx hSx hO3 hS3
              go_wp2_with (at_builtin; refine wpList_append_str rfl (.tmp 53) (.tmp 54) 55 9 rfl rfl _ _ rfl rfl _ _ (show _ = _ from R9) ?_)
              refine (hvo _ dn).mono ?_
              rintro e wv ⟨xv, yv, rfl, vv, ov, hbv⟩
              have bv : Below w1.heap.size w1 wv := b9.trans (hbv.mono b9.size)
              have hit : ItW wv w1.heap.size (xv, yv, u) := by
                refine ⟨HU.out.1, ?_, ?_⟩
                · show OwZ _ _ _ _
                  simp only
                  rw [← HU.out.2.1]
                  exact owns_mono ov b9.size
                · simp only
                  rw [← HU.out.2.1]
                  exact vv.n
              obtain ⟨vz, wz', rz, sz, kz⟩ := own_val wv w1.heap.size u6 its (xv, yv, u) (S9.out.up hbv) hit bv.size (by omega)
              rw [show (itC (xv, yv, u)).toArray = #[.int .i64 (ofV u).t, .complex .f64 (ofV u).z.1 (ofV u).z.2, .bool (ofV u).r, .slice xv (ofV u).zs.length yv] from rfl, ← HU.out.2.1] at rz
              have RZ : Hid (_ = _) := rz
              have OZ : Hid (LnW wz' w1.heap.size v9 vz (ls ++ [(m, u)]) (its ++ [(xv, yv, u)])) := by
                refine ⟨owns_kt (owns_up O9.out hbv) kz (by decide), sz, ?_, ?_⟩
                · rw [List.map_append, List.map_append, HEQ.out.1]; rfl
                · intro i hi
                  rcases List.mem_append.1 hi with h | h
                  · exact HEQ.out.2 i h
                  · rw [List.mem_singleton.1 h]; exact ⟨HM.out, HU.out.1⟩
              have bz := bv.trans kz.low
              have hll2 : (lineOf (ls ++ [(m, u)])).length ≤ 25 * sumQ (l.take (k + 1)) := by
                rw [lineOf_snoc, List.length_append, List.length_append, List.length_replicate, hst, ← HU.out.2.2]
                omega
              clear rz sz kz vv ov hit O9 S9 d0 d1 d2 d3 d4 d5 dn
              unfold vV
              go_wp2_with (at_builtin; refine wpList_append_run rfl (.tmp 56) (.tmp 62) 47 rfl rfl _ _ rfl rfl _ _ (show _ = _ from RZ) ?_)
              go_roundw
              case rel => exact ⟨k + 1, ls ++ [(m, u)], its ++ [(xv, yv, u)], by omega, by go_num, by rw [List.length_append]; simp; omega, hll2, bz, OZ⟩
              case measure => simp [RowKit.intOf]; omega
    · have hke : k = n := by omega
      have hlm : (lineOf ls).length ≤ 25 * 2097152 := by
        have := sumQ_le l k
        omega
      have hcv := conv_own hL.out.ln
      have es : (bs (lineOf ls)).size = (lineOf ls).length := bs_size _
      have e1 : (9223372036854775807 < (bs (lineOf ls)).size + 2) = False := by rw [es]; apply eq_false; omega
      have hsp := split_any (lineOf ls ++ [32, 32]) (by rw [List.length_append]; simp; omega) wr (env_keep hE1 hB)
      rw [spl_line hL.out.ok, ← bs_app, show bs [32, 32] = ⟨#[32, 32]⟩ from rfl] at hsp
      have HW : Hid (SR wr w1.heap.size u6 its) := hL.out.wt
      have HQ : Hid (its.map (·.2.2) = ls.map (·.2)) := hL.out.eq
      have hnt : its.length < 140737488355328 := by omega
      obtain ⟨aw, cw, ew, _, _⟩ := owns_slice hL.out.wt.row
      rw [ew] at HW ⊢
      generalize ls.map (·.2) = vs at *
      clear hL hlk ew es H3
      generalize bs (lineOf ls) = sl at *
      go_wp2_with fail
      refine hsp.mono ?_
      rintro e w2 ⟨hsa, hb2⟩
      obtain ⟨v4, its2, rfl, hS2, hits⟩ := hsa.ex
      rw [show sE (some vs) = 0 from rfl]
      simp only [Option.getD_some] at hits
      have hlen : its2.length = its.length := by
        have h1 := congrArg List.length hits
        have h2 := congrArg List.length HQ.out
        simp only [List.length_map] at h1 h2
        omega
      obtain ⟨ag, cg, eg, _, _⟩ := owns_slice hS2.row
      subst eg
      rw [hlen]
      have HS2 : Hid (SR w2 wr.heap.size (.slice ag its.length cg) its2) := by rw [← hlen]; exact hS2
      have HS1 : Hid (SR w2 w1.heap.size (.slice aw its.length cw) its) := HW.out.up hb2
      have HIE : Hid (its2.map (·.2.2) = its.map (·.2.2)) := by show _ = _; rw [hits, HQ.out]
      have HLE : Hid (its2.length = its.length) := hlen
      have B2 : Below w.heap.size w w2 := Below.thn hb1 (hB.trans (hb2.mono hB.size))
      obtain ⟨mm, hmm⟩ : ∃ mm, Hid (mm = its.length) := ⟨_, rfl⟩
      rw [← hmm.out] at hnt ⊢
      clear hsa hS2 hits hlen hsp hcv HW HQ hb2
      go_wp2_with fail
      go_loopw [14] (fun i wx => ∃ j : Nat, j ≤ mm ∧ i = .int .i64 j ∧ Below w2.heap.size w2 wx) (fun i _ => mm - (RowKit.intOf i).toNat)
      case atStart => exact ⟨0, Nat.zero_le _, rfl, Below.refl _ _⟩
      case round =>
        obtain ⟨k2, hk2, rfl, hBx⟩ := hrel
        by_cases hj : k2 < mm
        · have hj1 : k2 < its.length := by rw [← hmm.out]; exact hj
          have hj2 : k2 < its2.length := by rw [HLE.out]; exact hj1
          have hne1 : its ≠ [] := by intro e; rw [e] at hj1; simp at hj1
          have hne2 : its2 ≠ [] := by intro e; rw [e] at hj2; simp at hj2
          obtain ⟨g2, cap2, eq2, _, _, hv2⟩ := (HS1.out.up hBx).at hne1
          obtain ⟨g1, cap1, eq1, _, _, hv1⟩ := (HS2.out.up hBx).at hne2
          have m1 := hv1 k2 its2[k2] (List.getElem?_eq_getElem hj2)
          have m2 := hv2 k2 its[k2] (List.getElem?_eq_getElem hj1)
          have r1 := ((HS2.out.up hBx).its _ (List.getElem_mem hj2)).vr
          have r2 := ((HS1.out.up hBx).its _ (List.getElem_mem hj1)).vr
          have ok1 := ((HS1.out.up hBx).its _ (List.getElem_mem hj1)).ok
          have hee : its2[k2].2.2 = its[k2].2.2 := by
            have := congrArg (fun x => x[k2]?) HIE.out
            simpa [List.getElem?_eq_getElem hj1, List.getElem?_eq_getElem hj2] using this
          rw [hee] at m1 r1
          have hso := sound_ofV ok1
          simp only [Value.slice.injEq] at eq1 eq2
          obtain ⟨rfl, _, rfl⟩ := eq1
          obtain ⟨rfl, _, rfl⟩ := eq2
          generalize its2[k2].1 = i1 at *
          generalize its2[k2].2.1 = e1' at *
          generalize its[k2].1 = i2 at *
          generalize its[k2].2.1 = e2' at *
          generalize ofV its[k2].2.2 = v1 at *
          have hsame : ∀ W, Vr W i1 v1 → Vr W i2 v1 → Calls Tryz.prog 14 #[.agg #[.int .i64 v1.t, .complex .f64 v1.z.1 v1.z.2, .bool v1.r, .slice i1 v1.zs.length e1'], .agg #[.int .i64 v1.t, .complex .f64 v1.z.1 v1.z.2, .bool v1.r, .slice i2 v1.zs.length e2']] W fun e w' => e = .returned (.bool (sameV v1 v1)) ∧ Below W.heap.size W w' := fun W hv hu => same_any v1 v1 i1 i2 e1' e2' W hv hu
          have hss : sameV v1 v1 = true := by unfold sameV; rw [hso]; simp
          rw [hss] at hsame
          have hl1 := m1.lt
          have hl2 := m2.lt
          have hSS : ∀ X, Below wr.heap.size wr X → X.cell? ⟨g1, k2 * 4, none⟩ = some (.int .i64 v1.t) ∧ X.cell? ⟨g1, k2 * 4 + 1, none⟩ = some (.complex .f64 v1.z.1 v1.z.2) ∧ X.cell? ⟨g1, k2 * 4 + 2, none⟩ = some (.bool v1.r) ∧ X.cell? ⟨g1, k2 * 4 + 3, none⟩ = some (.slice i1 v1.zs.length e1') ∧ X.cell? ⟨g2, k2 * 4, none⟩ = some (.int .i64 v1.t) ∧ X.cell? ⟨g2, k2 * 4 + 1, none⟩ = some (.complex .f64 v1.z.1 v1.z.2) ∧ X.cell? ⟨g2, k2 * 4 + 2, none⟩ = some (.bool v1.r) ∧ X.cell? ⟨g2, k2 * 4 + 3, none⟩ = some (.slice i2 v1.zs.length e2') := fun X hX => ⟨(hX.cell hl1).trans m1.c0, (hX.cell hl1).trans m1.c1, (hX.cell hl1).trans m1.c2, (hX.cell hl1).trans m1.c3, (hX.cell hl2).trans m2.c0, (hX.cell hl2).trans m2.c1, (hX.cell hl2).trans m2.c2, (hX.cell hl2).trans m2.c3⟩
          have HS : Hid (∀ X, Below wr.heap.size wr X → X.cell? ⟨g1, k2 * 4, none⟩ = some (.int .i64 v1.t) ∧ X.cell? ⟨g1, k2 * 4 + 1, none⟩ = some (.complex .f64 v1.z.1 v1.z.2) ∧ X.cell? ⟨g1, k2 * 4 + 2, none⟩ = some (.bool v1.r) ∧ X.cell? ⟨g1, k2 * 4 + 3, none⟩ = some (.slice i1 v1.zs.length e1') ∧ X.cell? ⟨g2, k2 * 4, none⟩ = some (.int .i64 v1.t) ∧ X.cell? ⟨g2, k2 * 4 + 1, none⟩ = some (.complex .f64 v1.z.1 v1.z.2) ∧ X.cell? ⟨g2, k2 * 4 + 2, none⟩ = some (.bool v1.r) ∧ X.cell? ⟨g2, k2 * 4 + 3, none⟩ = some (.slice i2 v1.zs.length e2')) := hSS
          have s4 := hSS wr (Below.refl _ _)
          have bD := (Below.refl wr.heap.size wr).drew
          have sD := hSS wr.drew bD
          clear hSS m1 m2 hv1 hv2 hee hso ok1 hss hne1 hne2 hj1 hj2 HS1 HS2 HIE HLE
          go_upto_region 25 with fail
          go_region_held3 (fun X => X.cell? ⟨g1, k2 * 4, none⟩ = some (.int .i64 v1.t) ∧ X.cell? ⟨g1, k2 * 4 + 1, none⟩ = some (.complex .f64 v1.z.1 v1.z.2) ∧ X.cell? ⟨g1, k2 * 4 + 2, none⟩ = some (.bool v1.r) ∧ X.cell? ⟨g1, k2 * 4 + 3, none⟩ = some (.slice i1 v1.zs.length e1') ∧ X.cell? ⟨g2, k2 * 4, none⟩ = some (.int .i64 v1.t) ∧ X.cell? ⟨g2, k2 * 4 + 1, none⟩ = some (.complex .f64 v1.z.1 v1.z.2) ∧ X.cell? ⟨g2, k2 * 4 + 2, none⟩ = some (.bool v1.r) ∧ X.cell? ⟨g2, k2 * 4 + 3, none⟩ = some (.slice i2 v1.zs.length e2'))
            (first | (with_reducible exact sD) | (with_reducible exact s4) | (with_reducible exact sa)) (first
            | (go_at_call 14; (with_reducible refine Calls.mono (hsame _ (r1.up bD) (r2.up bD)) ?_); rintro e wa ⟨rfl, hba⟩; have ba := Below.thn bD hba; have sa := HS.out wa ba)
            | fail)
          all_goals
            go_wp2_with fail
            go_roundw
            case rel => exact ⟨k2 + 1, by omega, by go_num, Below.thn hBx ba⟩
            case measure => simp [RowKit.intOf]; omega
        · have hje : k2 = mm := by omega
          subst hje
          go_wp2
          go_ret
          exact ⟨rfl, Below.thn B2 hBx⟩
end Go.Proofs.YtbgggbkmnfppoaaGreatDoor
