/-
  The walk of the document's Split.
-/
import Derived.Test.YtbgggbkmnfppoaaGreatDoorZe
namespace Go.Proofs.YtbgggbkmnfppoaaGreatDoor
open Go.RowKit
set_option maxRecDepth 100000

theorem rparse_any (l : List UInt8) (hl : l.length ≤ 2000000000000) (w : World) :
    Calls Tryz.prog 17 #[.string (bs l)] w fun e w' => PA w.heap.size (pvV rdG l) e w' ∧ Below w.heap.size w w' := by
  by_cases h1 : l = tTrue
  · exact rparse_flat l hl w (.inl h1)
  by_cases h2 : l = tFalse
  · exact rparse_flat l hl w (.inr (.inl h2))
  cases hz : rdG l with
  | some z => exact rparse_flat l hl w (.inr (.inr (.inl ⟨z, hz, h1, h2⟩)))
  | none =>
    cases hb : brk l with
    | false => exact rparse_flat l hl w (.inr (.inr (.inr ⟨hz, h1, h2, hb⟩)))
    | true => exact rparse_list l hl w hz h1 h2 hb

theorem drop_get {l : List UInt8} {k : Nat} (hk : k < l.length) : l.drop k = l.getD k 0 :: l.drop (k + 1) := by
  rw [List.drop_eq_getElem_cons hk, List.getD_eq_getElem?_getD, List.getElem?_eq_getElem hk]; rfl

theorem byte_is (c d : UInt8) (n : Nat) (hd : d.toNat = n) : ((c.toNat : Int) == (n : Int)) = (c == d) := by
  rw [Bool.eq_iff_iff]
  simp only [beq_iff_eq, ← UInt8.toNat_inj]
  omega

theorem rtk_step {l : List UInt8} {q : Bool} {j : Nat} (hj : j < l.length) : rtk q (l.drop j) = if q || l.getD j 0 != 32 then rtk (if l.getD j 0 == 93 then false else q) (l.drop (j + 1)) + 1 else 0 := by
  rw [drop_get hj]; rfl

set_option maxHeartbeats 4000000 in
theorem rsplit_any (l : List UInt8) (hl : l.length ≤ 2000000000000) (w : World) :
    Calls Tryz.prog 20 #[.string (bs l)] w fun e w' => SA w.heap.size (rspl rdG l) e w' ∧ Below w.heap.size w w' := by
  have hsz := bs_size l
  obtain ⟨n, hn⟩ : ∃ n, Hid (n = l.length) := ⟨_, rfl⟩
  rw [← hn.out] at hl hsz
  obtain ⟨A, hA⟩ : ∃ A, Hid (A = rspl rdG l) := ⟨_, rfl⟩
  rw [← hA.out]
  have HX : Hid (∀ i j, (bs l).extract i j = bs ((l.drop i).take (j - i))) := fun i j => bs_extract l i j
  have HG : Hid (∀ k (h : k < (bs l).size), (bs l)[k] = l.getD k 0) := fun k h => bs_get l k h
  generalize hsl : bs l = sl at *
  clear hsl
  go_enter Tryz.func20, Tryz.ntmps20
  go_wp2_with fail
  go_loopw [4, 5] (fun v i wr => ∃ (k : Nat) (its : List It), i = .int .i64 k ∧ k ≤ n ∧ its.length ≤ k ∧ Below w.heap.size w wr ∧ Hid (SR wr w.heap.size v its) ∧ Hid (rspl rdG l = (rspl rdG (l.drop k)).map (its.map (·.2.2) ++ ·))) (fun _ i _ => n - (RowKit.intOf i).toNat)
  case atStart => exact ⟨0, [], rfl, Nat.zero_le _, Nat.le_refl _, Below.refl _ _, ⟨⟨rfl, .inl ⟨rfl, rfl⟩⟩, fun i hi => by simp at hi⟩, by show _ = _; rw [List.drop_zero]; cases rspl rdG l <;> simp⟩
  case round =>
    obtain ⟨k, its, rfl, hkn, hik, hB, hS, hsp⟩ := hrel
    by_cases hlt : k < n
    · have hk : k < l.length := by rw [← hn.out]; exact hlt
      have hks : k < sl.size := by rw [hsz]; exact hlt
      have hgk := HG.out k hks
      have g0 : (k : Int) < (sl.size : Int) := by omega
      have hdk := drop_get hk
      cases h32 : (l.getD k 0 == 32) with
      | true =>
        have hc : l.getD k 0 = 32 := by simpa using h32
        have e32 : ((sl[k].toNat : Int) == 32) = true := by rw [hgk, hc]; rfl
        have HSP : Hid (rspl rdG l = (rspl rdG (l.drop (k + 1))).map (its.map (·.2.2) ++ ·)) := by
          show _ = _
          rw [hsp.out, hdk, hc, rspl_blank]
        clear hgk hdk hc h32 hsp
        go_wp2_with fail
        go_roundw
        case rel => exact ⟨k + 1, its, by go_num, by omega, by omega, hB, hS, HSP⟩
        case measure => simp [RowKit.intOf]; omega
      | false =>
        have hc : l.getD k 0 ≠ 32 := by simpa using h32
        have e32 : ((sl[k].toNat : Int) == 32) = false := by rw [hgk]; exact (byte_is _ 32 32 rfl).trans h32
        have e91 : ((sl[k].toNat : Int) == 91) = (l.getD k 0 == 91) := by rw [hgk]; exact byte_is _ 91 91 rfl
        obtain ⟨q0, hq0⟩ : ∃ q0, q0 = (l.getD k 0 == 91) := ⟨_, rfl⟩
        have hrc := rspl_cons rdG hc (l.drop (k + 1))
        rw [← hdk, ← hq0] at hrc
        have htl := rtk_le (l.drop k) q0
        rw [List.length_drop, ← hn.out] at htl
        have htp : 0 < rtk q0 (l.drop k) := by
          rw [rtk_step hk, if_pos (by rw [Bool.or_eq_true]; right; simpa using hc)]
          exact Nat.succ_pos _
        rw [← hq0] at e91
        have HSP : Hid (rspl rdG l = (match pvV rdG ((l.drop k).take (rtk q0 (l.drop k))) with
          | none => none
          | some v => (rspl rdG ((l.drop k).drop (rtk q0 (l.drop k)))).map (v :: ·)).map ((its.map fun i : It => i.2.2) ++ ·)) := by show _ = _; rw [hsp.out, hrc]; rfl
        obtain ⟨te, hte⟩ : ∃ te, te = rtk q0 (l.drop k) := ⟨_, rfl⟩
        rw [← hte] at HSP htl htp
        rw [List.drop_drop] at HSP
        have HTE : Hid (te = rtk q0 (l.drop k)) := hte
        clear hgk hdk hc h32 hsp hrc hte hq0
        go_wp2_with fail
        obtain ⟨wo, hwo⟩ : ∃ wo, wo = wr := ⟨_, rfl⟩
        rw [← hwo] at hB hS ⊢
        clear hwo
        go_loopw [5, 7] (fun i qv wx => ∃ (j : Nat) (q : Bool), i = .int .i64 j ∧ qv = .bool q ∧ wx = wo ∧ k ≤ j ∧ j ≤ n ∧ Hid (te = (j - k) + rtk q (l.drop j))) (fun i _ _ => n - (RowKit.intOf i).toNat)
        case atStart => exact ⟨k, q0, rfl, rfl, rfl, Nat.le_refl _, by omega, by show _ = _; rw [HTE.out]; omega⟩
        case round =>
          obtain ⟨j, q, rfl, rfl, rfl, hkj, hjn, hT⟩ := hrel
          by_cases hjl : j < n
          · have hj2 : j < l.length := by rw [← hn.out]; exact hjl
            have hjs : j < sl.size := by rw [hsz]; exact hjl
            have hgj := HG.out j hjs
            have g4 : (j : Int) < (sl.size : Int) := by omega
            have hst := rtk_step (q := q) hj2
            have e32 : ((sl[j].toNat : Int) != 32) = (l.getD j 0 != 32) := by
              rw [hgj]
              exact congrArg (fun b => !b) (byte_is (l.getD j 0) 32 32 rfl)
            have e93 : ((sl[j].toNat : Int) == 93) = (l.getD j 0 == 93) := by rw [hgj]; exact byte_is _ 93 93 rfl
            generalize hc32 : (l.getD j 0 != 32) = b32 at *
            generalize hc93 : (l.getD j 0 == 93) = b93 at *
            clear hgj hj2 hc32 hc93 e91
            cases hcond : (q || b32) with
            | true =>
              rw [hcond, if_pos rfl] at hst
              have HT2 : Hid (te = (j + 1 - k) + rtk (if b93 = true then false else q) (l.drop (j + 1))) := by show _ = _; rw [hT.out, hst]; omega
              clear hT hst
              cases b93
              · cases q
                · cases b32
                  · cases hcond
                  · go_wp2_with fail
                    go_roundw
                    case rel => exact ⟨j + 1, false, by go_num, rfl, by first | rfl | trivial, by omega, by omega, HT2⟩
                    case measure => simp [RowKit.intOf]; omega
                · go_wp2_with fail
                  go_roundw
                  case rel => exact ⟨j + 1, true, by go_num, rfl, by first | rfl | trivial, by omega, by omega, HT2⟩
                  case measure => simp [RowKit.intOf]; omega
              · cases q
                · cases b32
                  · cases hcond
                  · go_wp2_with fail
                    go_roundw
                    case rel => exact ⟨j + 1, false, by go_num, rfl, by first | rfl | trivial, by omega, by omega, HT2⟩
                    case measure => simp [RowKit.intOf]; omega
                · go_wp2_with fail
                  go_roundw
                  case rel => exact ⟨j + 1, false, by go_num, rfl, by first | rfl | trivial, by omega, by omega, HT2⟩
                  case measure => simp [RowKit.intOf]; omega
            | false =>
              rw [hcond, if_neg Bool.false_ne_true] at hst
              have HF : Hid (te = j - k) := by show _ = _; rw [hT.out, hst]; rfl
              cases q
              · cases b32
                · clear hcond hst e93
                  have hje : j = k + te := by have := HF.out; omega
                  have hxx := HX.out k j
                  have HP : Hid ((l.drop k).take (j - k) = (l.drop k).take te) := by show _ = _; rw [hje, Nat.add_sub_cancel_left]
                  rw [HP.out] at hxx
                  have hpa := fun W => rparse_any ((l.drop k).take te) (by rw [List.length_take, List.length_drop, ← hn.out]; omega) W
                  have HJ : Hid (l.drop (k + te) = l.drop j) := by show _ = _; rw [hje]
                  generalize (l.drop k).take te = pc at *
                  rw [← hxx] at hpa
                  have g5 : (k : Int) ≤ (j : Int) := by omega
                  have g6 : (j : Int) ≤ (sl.size : Int) := by omega
                  have g7 : j ≤ sl.size := by omega
                  clear hxx hT HP HTE
                  have htj : Hid (k < j) := (show k < j by omega)
                  clear hje
                  go_wp2_with fail
                  refine (hpa _).mono ?_
                  rintro e w2 ⟨hpx, hb2⟩
                  obtain ⟨ao, cap, rfl, hvr, hO⟩ := hpx.ex
                  have hZ0 := Bk.new w2 35 #[.int .i64 0, .complex .f64 0 0, .bool false, .slice none 0 0]
                  cases hg : pvV rdG pc with
                  | none =>
                    have hb := hA.out
                    rw [HSP.out, hg] at hb
                    simp only [Option.map_none] at hb
                    subst hb
                    rw [show pR none = rv0 from rfl, show pE none = 11 from rfl]
                    unfold vV rv0
                    clear hvr hO hpx HSP hA hpa hg
                    go_wp2_with (refine wpList_storeN rfl 35 (.tmp 8) (.tmp 50) rfl w2.heap.size 0 [.int .i64 0, .complex .f64 0 0, .bool false, .slice ao 0 cap] rfl rfl hZ0 (Nat.le_refl 4) Tryz.infoV (one4 _ _ _ _ _ _ _) ?_; intro w9 hB9 hO9)
                    go_ret2
                    exact ⟨SA_none _ _, (Below.thn hB hb2).trans (((below_alloc w2 _).mono (Nat.le_trans hB.size hb2.size)).trans (hO9.below (Nat.le_trans hB.size hb2.size)))⟩
                  | some u =>
                    have hu := (pv_of rdG_rdr hg).1
                    rw [hg] at hvr hO
                    rw [show pR (some u) = ofV u from rfl] at hvr hO
                    rw [show pR (some u) = ofV u from rfl, show pE (some u) = 0 from rfl]
                    have HSQ : Hid (rspl rdG l = (rspl rdG (l.drop j)).map ((its ++ [(ao, cap, u)]).map (·.2.2) ++ ·)) := by
                      show _ = _
                      rw [HSP.out, hg, HJ.out]
                      cases rspl rdG (l.drop j) <;> simp
                    unfold vV
                    clear hpx HSP hpa hg HJ
                    have HU : Hid (okV u) := hu
                    have HO : Hid (OwZ w2 wr.heap.size (.slice ao (ofV u).zs.length cap) (ofV u).zs) := hO
                    have HN : Hid ((ofV u).zs.length ≤ 5864062014806) := hvr.n
                    clear hvr hO hu
                    go_wp2_with (first
                      | (refine wpList_storeN rfl 35 (.tmp 8) (.tmp 50) rfl w2.heap.size 0 [.int .i64 (ofV u).t, .complex .f64 (ofV u).z.1 (ofV u).z.2, .bool (ofV u).r, .slice ao (ofV u).zs.length cap] rfl rfl hZ0 (Nat.le_refl 4) Tryz.infoV (one4 _ _ _ _ _ _ _) ?_; intro w3 hB3 hO3; obtain ⟨v9, w9, r9, S9, b9⟩ := split_step hS.out HU.out HO.out HN.out hb2 hB.size hO3 (by omega); have R9 : Hid (_ = _) := r9; clear r9
                         have c0 : w3.cell? ⟨w2.heap.size, 0, none⟩ = some (.int .i64 (ofV u).t) := hB3.cell 0
                         have c1 : w3.cell? ⟨w2.heap.size, 1, none⟩ = some (.complex .f64 (ofV u).z.1 (ofV u).z.2) := hB3.cell 1
                         have c2 : w3.cell? ⟨w2.heap.size, 2, none⟩ = some (.bool (ofV u).r) := hB3.cell 2
                         have c3 : w3.cell? ⟨w2.heap.size, 3, none⟩ = some (.slice ao (ofV u).zs.length cap) := hB3.cell 3)
                      | (at_builtin; refine wpList_append_run rfl (.tmp 54) (.tmp 56) 47 rfl rfl _ _ rfl rfl _ _ (show _ = _ from R9) ?_)
                      | fail)
                    go_roundw
                    case rel =>
                      refine ⟨j, its ++ [(ao, cap, u)], rfl, hjn, ?_, hB.trans b9, S9, HSQ⟩
                      have := htj.out
                      rw [List.length_append]
                      simp
                      omega
                    case measure =>
                      have := htj.out
                      simp [RowKit.intOf]
                      omega
                · cases hcond
              · cases hcond
          · have hje0 : j = n := by omega
            have g4 : ¬ (j : Int) < (sl.size : Int) := by omega
            have hst : rtk q (l.drop j) = 0 := by
              rw [List.drop_of_length_le (by rw [← hn.out]; omega)]
              rfl
            have HF : Hid (te = j - k) := by show _ = _; rw [hT.out, hst]; rfl
            clear hst e91
            subst hje0
            have hje : j = k + te := by have := HF.out; omega
            have hxx := HX.out k j
            have HP : Hid ((l.drop k).take (j - k) = (l.drop k).take te) := by show _ = _; rw [hje, Nat.add_sub_cancel_left]
            rw [HP.out] at hxx
            have hpa := fun W => rparse_any ((l.drop k).take te) (by rw [List.length_take, List.length_drop, ← hn.out]; omega) W
            have HJ : Hid (l.drop (k + te) = l.drop j) := by show _ = _; rw [hje]
            generalize (l.drop k).take te = pc at *
            rw [← hxx] at hpa
            have g5 : (k : Int) ≤ (j : Int) := by omega
            have g6 : (j : Int) ≤ (sl.size : Int) := by omega
            have g7 : j ≤ sl.size := by omega
            clear hxx hT HP HTE
            have htj : Hid (k < j) := (show k < j by omega)
            clear hje
            go_wp2_with fail
            refine (hpa _).mono ?_
            rintro e w2 ⟨hpx, hb2⟩
            obtain ⟨ao, cap, rfl, hvr, hO⟩ := hpx.ex
            have hZ0 := Bk.new w2 35 #[.int .i64 0, .complex .f64 0 0, .bool false, .slice none 0 0]
            cases hg : pvV rdG pc with
            | none =>
              have hb := hA.out
              rw [HSP.out, hg] at hb
              simp only [Option.map_none] at hb
              subst hb
              rw [show pR none = rv0 from rfl, show pE none = 11 from rfl]
              unfold vV rv0
              clear hvr hO hpx HSP hA hpa hg
              go_wp2_with (refine wpList_storeN rfl 35 (.tmp 8) (.tmp 50) rfl w2.heap.size 0 [.int .i64 0, .complex .f64 0 0, .bool false, .slice ao 0 cap] rfl rfl hZ0 (Nat.le_refl 4) Tryz.infoV (one4 _ _ _ _ _ _ _) ?_; intro w9 hB9 hO9)
              go_ret2
              exact ⟨SA_none _ _, (Below.thn hB hb2).trans (((below_alloc w2 _).mono (Nat.le_trans hB.size hb2.size)).trans (hO9.below (Nat.le_trans hB.size hb2.size)))⟩
            | some u =>
              have hu := (pv_of rdG_rdr hg).1
              rw [hg] at hvr hO
              rw [show pR (some u) = ofV u from rfl] at hvr hO
              rw [show pR (some u) = ofV u from rfl, show pE (some u) = 0 from rfl]
              have HSQ : Hid (rspl rdG l = (rspl rdG (l.drop j)).map ((its ++ [(ao, cap, u)]).map (·.2.2) ++ ·)) := by
                show _ = _
                rw [HSP.out, hg, HJ.out]
                cases rspl rdG (l.drop j) <;> simp
              unfold vV
              clear hpx HSP hpa hg HJ
              have HU : Hid (okV u) := hu
              have HO : Hid (OwZ w2 wr.heap.size (.slice ao (ofV u).zs.length cap) (ofV u).zs) := hO
              have HN : Hid ((ofV u).zs.length ≤ 5864062014806) := hvr.n
              clear hvr hO hu
              go_wp2_with (first
                | (refine wpList_storeN rfl 35 (.tmp 8) (.tmp 50) rfl w2.heap.size 0 [.int .i64 (ofV u).t, .complex .f64 (ofV u).z.1 (ofV u).z.2, .bool (ofV u).r, .slice ao (ofV u).zs.length cap] rfl rfl hZ0 (Nat.le_refl 4) Tryz.infoV (one4 _ _ _ _ _ _ _) ?_; intro w3 hB3 hO3; obtain ⟨v9, w9, r9, S9, b9⟩ := split_step hS.out HU.out HO.out HN.out hb2 hB.size hO3 (by omega); have R9 : Hid (_ = _) := r9; clear r9
                   have c0 : w3.cell? ⟨w2.heap.size, 0, none⟩ = some (.int .i64 (ofV u).t) := hB3.cell 0
                   have c1 : w3.cell? ⟨w2.heap.size, 1, none⟩ = some (.complex .f64 (ofV u).z.1 (ofV u).z.2) := hB3.cell 1
                   have c2 : w3.cell? ⟨w2.heap.size, 2, none⟩ = some (.bool (ofV u).r) := hB3.cell 2
                   have c3 : w3.cell? ⟨w2.heap.size, 3, none⟩ = some (.slice ao (ofV u).zs.length cap) := hB3.cell 3)
                | (at_builtin; refine wpList_append_run rfl (.tmp 54) (.tmp 56) 47 rfl rfl _ _ rfl rfl _ _ (show _ = _ from R9) ?_)
                | fail)
              go_roundw
              case rel =>
                refine ⟨j, its ++ [(ao, cap, u)], rfl, Nat.le_refl _, ?_, hB.trans b9, S9, HSQ⟩
                have := htj.out
                rw [List.length_append]
                simp
                omega
              case measure =>
                have := htj.out
                simp [RowKit.intOf]
                omega
    · have hke : k = n := by omega
      have g0 : ¬ (k : Int) < (sl.size : Int) := by omega
      have hb := hA.out
      rw [hsp.out, List.drop_of_length_le (by rw [← hn.out]; omega), rspl_nil] at hb
      simp only [Option.map_some, List.append_nil] at hb
      have KEY : Hid (∀ v, v = u4 → SA w.heap.size A (.returned (.tuple #[v, .int .i64 0])) wr) := by
        intro v hv
        rw [hb, hv]
        exact ⟨u4, its, rfl, hS.out, rfl⟩
      clear hb hsp hA
      subst hke
      go_wp2
      go_ret2
      exact ⟨KEY.out _ rfl, hB⟩
end Go.Proofs.YtbgggbkmnfppoaaGreatDoor
