/-
  The walk of Marks.
-/
import Derived.Test.YtndgglhppoijnaaGreatDoorUG
namespace Go.Proofs.YtndgglhppoijnaaGreatDoor
open Go.RowKit
set_option maxRecDepth 100000

def muM (l : List UInt8) : Nat → Nat → Nat
  | 0, k => 4 * (l.length - k) + 1
  | 1, k => 4 * (l.length - k) + (if k < l.length ∧ l.getD k 0 ≠ 10 then 0 else 2)
  | 2, k => 4 * (l.length - k) + (if k < l.length ∧ inRn (l.getD k 0) = true then 0 else 2)
  | 3, k => 4 * (l.length - k)
  | _, _ => 0

/-- What Marks answers. -/
def MkAns (w w' : World) (e : Ending) : Cu → Prop
  | .ok ms => ∃ g c, e = .returned (.tuple #[.slice (some ⟨g, 0, none⟩) ms.length c, .agg #[.int .i64 0, .int .i64 0]]) ∧ w'.ownsRow w.heap.size 85 4 (.slice (some ⟨g, 0, none⟩) ms.length c) ms.length (mksC ms)
  | .bad k => e = .returned (.tuple #[.slice none 0 0, .agg #[.int .i64 20, .int .i64 k]])

theorem drop_at {l : List UInt8} {k : Nat} (h : k < l.length) : l.drop k = l.getD k 0 :: l.drop (k + 1) := by
  rw [List.drop_eq_getElem_cons h]
  congr 1
  rw [List.getD_eq_getElem?_getD, List.getElem?_eq_getElem h]
  rfl

theorem step_blank {l : List UInt8} {k : Nat} (h : k < l.length) (hb : isBl (l.getD k 0) = true) : cut rdN (l.drop k) k = cut rdN (l.drop (k + 1)) (k + 1) := by
  rw [drop_at h]
  exact gap_one rdN _ hb _ _

theorem step_hash {l : List UInt8} {k : Nat} (h : k < l.length) (_hb : isBl (l.getD k 0) = false) (hc : l.getD k 0 = 35) :
    cut rdN (l.drop k) k = cut rdN ((l.drop k).dropWhile (· != 10)) (k + ((l.drop k).takeWhile (· != 10)).length) := by
  have hs : stp rdN (l.drop k) k = .skip (1 + ((l.drop (k + 1)).takeWhile (· != 10)).length) := by
    rw [drop_at h, hc]
    rfl
  rw [cut_skip rdN hs, Nat.add_comm 1, drop_at h, hc, List.drop_succ_cons, tw_drop]
  have e1 : ((35 : UInt8) :: l.drop (k + 1)).dropWhile (· != 10) = (l.drop (k + 1)).dropWhile (· != 10) := by rw [List.dropWhile_cons, if_pos (by decide)]
  have e2 : (((35 : UInt8) :: l.drop (k + 1)).takeWhile (· != 10)).length = ((l.drop (k + 1)).takeWhile (· != 10)).length + 1 := by rw [List.takeWhile_cons, if_pos (by decide)]; rfl
  rw [e1, e2]

theorem stp_one {c : UInt8} {r : List UInt8} {k : Nat} (hb : isBl c = false) (hc : c ≠ 35) : stp rdN (c :: r) k = match oneM rdN (c :: r) k with | none => .bad | some m => .mark m := by
  have hc' : (c == 35) = false := by rw [beq_eq_false_iff_ne]; exact hc
  unfold stp
  dsimp only
  rw [hb, hc']
  rfl

theorem inRn_not {c : UInt8} (h : inRn c = true) : isBl c = false ∧ c ≠ 35 := by
  rw [inRn_eq, decide_eq_true_eq] at h
  constructor
  · rw [isBl_eq, decide_eq_false_iff_not]; omega
  · intro e; subst e; revert h; decide

/-- Where a run ends. -/
theorem step_run {l : List UInt8} {k fr : Nat} (hf : fr < l.length) (hk : k ≤ l.length) (hfk : fr ≤ k) (hr : inRn (l.getD fr 0) = true) (ht : (l.drop fr).takeWhile inRn = (l.drop fr).take (k - fr) ++ (l.drop k).takeWhile inRn) (he : (l.drop k).takeWhile inRn = []) :
    cut rdN (l.drop fr) fr = match runM rdN ((l.drop fr).take (k - fr)) fr with | none => .bad fr | some m => (cut rdN (l.drop k) k).pre [m] := by
  rw [he, List.append_nil] at ht
  obtain ⟨n1, n2⟩ := inRn_not hr
  have hs : stp rdN (l.drop fr) fr = match runM rdN ((l.drop fr).take (k - fr)) fr with | none => .bad | some m => .mark m := by
    rw [← ht, drop_at hf, stp_one n1 n2]
    unfold oneM
    dsimp only
    rw [if_pos hr]
  cases hm : runM rdN ((l.drop fr).take (k - fr)) fr with
  | none => rw [hm] at hs; exact cut_bad rdN hs
  | some m =>
    rw [hm] at hs
    have hmt := (runM_some rdN hm).1
    rw [cut_mark rdN hs]
    have hlen : m.text.length = k - fr := by
      rw [hmt, List.length_take, List.length_drop]; omega
    rw [hlen, List.drop_drop, Nat.add_sub_cancel' hfk]

theorem step_sign {l : List UInt8} {k : Nat} (h : k < l.length) (hb : isBl (l.getD k 0) = false) (hc : l.getD k 0 ≠ 35) (hr : inRn (l.getD k 0) = false) :
    cut rdN (l.drop k) k = match signM (l.drop k) k with | none => .bad k | some m => (cut rdN (l.drop (k + m.text.length)) (k + m.text.length)).pre [m] := by
  have hs : stp rdN (l.drop k) k = match signM (l.drop k) k with | none => .bad | some m => .mark m := by
    rw [drop_at h, stp_one hb hc]
    unfold oneM
    dsimp only
    rw [hr]
    rfl
  cases hm : signM (l.drop k) k with
  | none => rw [hm] at hs; exact cut_bad rdN hs
  | some m =>
    rw [hm] at hs
    rw [cut_mark rdN hs, List.drop_drop]

theorem sign_len {l : List UInt8} {k : Nat} {m : Mk} (h : k < l.length) (hm : signM (l.drop k) k = some m) : 1 ≤ m.text.length ∧ k + m.text.length ≤ l.length := by
  rw [drop_at h] at hm
  unfold signM at hm
  split at hm
  · cases hm
  · rename_i hs
    cases hm
    obtain ⟨h1, h2, _⟩ := signL_pos hs
    refine ⟨h1, ?_⟩
    dsimp only
    rw [← drop_at h] at *
    rw [List.length_drop] at h2
    omega

set_option maxHeartbeats 8000000 in
theorem marks_some (b off cap : Nat) (l : List UInt8) (hl : l ≠ []) (hlen : l.length ≤ 16777216) (hcap : l.length ≤ cap) (w : World) (hG : Gl w) (hE : Env w) (hT : Bd w (some ⟨b, off, none⟩) l) :
    Calls Tryz.prog 17 #[.slice (some ⟨b, off, none⟩) l.length cap] w fun e w' => MkAns w w' e (cut rdN l 0) ∧ Below w.heap.size w w' := by
  obtain ⟨i0, hi, hz0, hz1, hz2⟩ := info_parts Tryz.infoMk
  go_enter Tryz.func17, Tryz.ntmps17
  go_wp2
  refine wp_scope_five
    (fun a w' => ∃ v ms k fr, MJ (.slice (some ⟨b, off, none⟩) l.length cap) (.pointer (some ⟨w.heap.size, 0, none⟩)) (.pointer (some ⟨w.heap.size + 1, 0, none⟩)) v k fr a ∧ Ws w w' v ms ∧ k ≤ l.length ∧ Hid (ms.length ≤ k ∧ cut rdN l 0 = (cut rdN (l.drop k) k).pre ms))
    (fun a w' => ∃ v ms k fr, MJ (.slice (some ⟨b, off, none⟩) l.length cap) (.pointer (some ⟨w.heap.size, 0, none⟩)) (.pointer (some ⟨w.heap.size + 1, 0, none⟩)) v k fr a ∧ Ws w w' v ms ∧ k ≤ l.length ∧ Hid (ms.length ≤ k ∧ cut rdN l 0 = (cut rdN ((l.drop k).dropWhile (· != 10)) (k + ((l.drop k).takeWhile (· != 10)).length)).pre ms))
    (fun a w' => ∃ v ms k fr, MJ (.slice (some ⟨b, off, none⟩) l.length cap) (.pointer (some ⟨w.heap.size, 0, none⟩)) (.pointer (some ⟨w.heap.size + 1, 0, none⟩)) v k fr a ∧ Ws w w' v ms ∧ k ≤ l.length ∧ fr < l.length ∧ fr ≤ k ∧ Hid (ms.length ≤ fr ∧ inRn (l.getD fr 0) = true ∧ cut rdN l 0 = (cut rdN (l.drop fr) fr).pre ms ∧ (l.drop fr).takeWhile inRn = (l.drop fr).take (k - fr) ++ (l.drop k).takeWhile inRn))
    (fun a w' => ∃ v ms k fr, MJ (.slice (some ⟨b, off, none⟩) l.length cap) (.pointer (some ⟨w.heap.size, 0, none⟩)) (.pointer (some ⟨w.heap.size + 1, 0, none⟩)) v k fr a ∧ Ws w w' v ms ∧ k < l.length ∧ fr = k ∧ Hid (ms.length ≤ k ∧ isBl (l.getD k 0) = false ∧ l.getD k 0 ≠ 35 ∧ inRn (l.getD k 0) = false ∧ cut rdN l 0 = (cut rdN (l.drop k) k).pre ms))
    (fun a w' => ∃ v ms k fr, MJ (.slice (some ⟨b, off, none⟩) l.length cap) (.pointer (some ⟨w.heap.size, 0, none⟩)) (.pointer (some ⟨w.heap.size + 1, 0, none⟩)) v k fr a ∧ Ws w w' v ms ∧ Hid (cut rdN l 0 = .bad fr))
    (fun j a _ => muM l j (atOf a)) rfl rfl rfl rfl rfl ?_ ?_ ?_ ?_ ?_ ?_
  · go_hide hQ
    go_wp2
    go_step3
    have hft := S2.new w (.int .i64 0) (.int .i64 0)
    have h40 := S4.new (w.alloc (.cells #[.int .i64 0, .int .i64 0] 32)) (.int .i64 0) (.string ⟨#[]⟩) (.complex .f64 0 0) (.int .i64 0)
    have hW : Ws w ((w.alloc (.cells #[.int .i64 0, .int .i64 0] 32)).alloc (.cells #[.int .i64 0, .string ⟨#[]⟩, .complex .f64 0 0, .int .i64 0] 85)) (.slice none 0 0) [] := by
      refine ⟨below_two w _ _, ⟨rfl, .inl ⟨rfl, rfl⟩⟩, hft.to hft.lt (below_alloc _ _), .int .i64 0, .string ⟨#[]⟩, .complex .f64 0 0, .int .i64 0, ?_⟩
      simpa using h40
    clear hft h40
    generalize hw' : ((w.alloc (.cells #[.int .i64 0, .int .i64 0] 32)).alloc (.cells #[.int .i64 0, .string ⟨#[]⟩, .complex .f64 0 0, .int .i64 0] 85)) = w' at *
    clear hw'
    have hk3 : 0 < l.length := List.length_pos_iff.2 hl
    obtain ⟨c, hcd⟩ : ∃ c, c = l.getD 0 0 := ⟨_, rfl⟩
    have hck := keep hW.bel (hT.cells 0 hk3)
    rw [← hcd, Nat.add_zero] at hck
    have HW : Hid (Ws w w' (.slice none 0 0) []) := hW
    have HC : Hid (c = l.getD 0 0) := hcd
    have HN : Hid (cut rdN l 0 = (cut rdN (l.drop 0) 0).pre []) := by rw [pre_nil]; rfl
    clear hG hE hT hW hcd
    by_cases hb : isBl c = true
    · have hbl := isBlank_any c w'
      rw [hb] at hbl
      go_wp2_with (go_at_call 28; refine hbl.mono ?_; rintro e w1 ⟨rfl, rfl⟩)
      go_step3
      subst hQ
      simp only [Exit.inBlock, Exit.then, jumps_goto, five]
      refine ⟨.slice none 0 0, [], 1, 0, MJ.mk, HW, by omega, Nat.zero_le _, ?_⟩
      rw [show cut rdN l 0 = _ from HN, step_blank hk3 (by rw [← show c = _ from HC]; exact hb)]
    · have hb' : isBl c = false := by simpa using hb
      have hbl := isBlank_any c w'
      rw [hb'] at hbl
      by_cases h35 : c = 35
      · have e35 : ((c.toNat : Int) == 35) = true := by rw [h35]; rfl
        have H35 : Hid (c = 35) := h35
        clear h35
        go_wp2_with (go_at_call 28; refine hbl.mono ?_; rintro e w1 ⟨rfl, rfl⟩)
        go_step3
        subst hQ
        simp only [Exit.inBlock, Exit.then, jumps_goto, five]
        refine ⟨.slice none 0 0, [], 0, 0, MJ.mk, HW, by omega, Nat.zero_le _, ?_⟩
        rw [show cut rdN l 0 = _ from HN, step_hash hk3 (by rw [← show c = _ from HC]; exact hb') (by rw [← show c = _ from HC]; exact H35)]
      · have e35 : ((c.toNat : Int) == 35) = false := by
          rw [beq_eq_false_iff_ne]; intro e; exact h35 (UInt8.toNat_inj.1 (by have : (35 : UInt8).toNat = 35 := rfl; omega))
        have H35 : Hid (c ≠ 35) := h35
        clear h35
        have hin := inRun_any c w'
        by_cases hr : inRn c = true
        · rw [hr] at hin
          go_wp2_with (first
            | (go_at_call 28; refine hbl.mono ?_; rintro e w1 ⟨rfl, rfl⟩)
            | (go_at_call 29; refine hin.mono ?_; rintro e w1 ⟨rfl, rfl⟩))
          go_step3
          subst hQ
          simp only [Exit.then, jumps_goto, five]
          refine ⟨.slice none 0 0, [], 0, 0, MJ.mk, HW, by omega, hk3, Nat.le_refl _, Nat.zero_le _, ?_, HN, rfl⟩
          rw [← show c = _ from HC]; exact hr
        · have hr' : inRn c = false := by simpa using hr
          rw [hr'] at hin
          go_wp2_with (first
            | (go_at_call 28; refine hbl.mono ?_; rintro e w1 ⟨rfl, rfl⟩)
            | (go_at_call 29; refine hin.mono ?_; rintro e w1 ⟨rfl, rfl⟩))
          go_step3
          subst hQ
          simp only [Exit.then, jumps_goto, five]
          refine ⟨.slice none 0 0, [], 0, 0, MJ.mk, HW, hk3, rfl, Nat.zero_le _, ?_, ?_, ?_, HN⟩
          · rw [← show c = _ from HC]; exact hb'
          · rw [← show c = _ from HC]; exact H35
          · rw [← show c = _ from HC]; exact hr'
  · rintro a w' ⟨v, ms, k, fr, hA, hW, hk, hc⟩
    have hAt := hA.at
    obtain ⟨U, rfl⟩ := hA
    have hml : ms.length ≤ 16777216 := by have := (show _ ∧ _ from hc).1; omega
    go_hide hQ
    by_cases hk2 : k = l.length
    · subst hk2
      have HW : Hid (Ws w w' v ms) := hW
      have hsz := hW.lt
      clear hG hE hT hW
      go_wp2_with (first
        | (at_builtin; refine wpList_append_own _ rfl (.tmp 14) (.tmp 17) 60 rfl (w.heap.size + 2) 85 i0 (.agg #[.int .i64 0, .string ⟨#[]⟩, .complex .f64 0 0, .int .i64 0]) 4 48 Tryz.underMs hi hz0 hz1 hz2 rfl (by decide) _ _ _ rfl (owns_up (show Ws w w' v ms from HW).own (below_alloc _ _)) ⟨w'.heap.size, 0, none⟩ 1 1 [.int .i64 4, .string ⟨#[]⟩, .complex .f64 0 0, .int .i64 l.length] rfl rfl (new4 w' [.int .i64 4, .string ⟨#[]⟩, .complex .f64 0 0, .int .i64 l.length] 85) (one4c _ _ _ _ _) (by unfold maxLen; omega) (by omega) (by simp; omega) ?_; intro v' w9 hown' hgrow _; have HW9 : Hid (Ws w w9 v' (ms ++ [endM l.length])) := ((show Ws w w' v ms from HW).up (below_alloc _ (.cells #[.int .i64 4, .string ⟨#[]⟩, .complex .f64 0 0, .int .i64 l.length] 85))).app (endM l.length) (mkC_end _) hown' hgrow; clear hown' hgrow)
        | (refine wpList_store2 rfl (.tmp 3) (.tmp 19) rfl w.heap.size _ _ rfl rfl (show Ws w w9 v' (ms ++ [endM l.length]) from HW9).ft ⟨rfl, rfl⟩ ?_; intro w8 s8 oth8; obtain ⟨q0, q1, _, _⟩ := s8.cells))
      subst hQ
      rw [jumps_ret]
      obtain ⟨ho8, hb8⟩ := (show Ws w w9 v' (ms ++ [endM l.length]) from HW9).done oth8
      rcases ho8.2 with ⟨_, h0⟩ | ⟨g, cp, cur, rfl, _⟩
      · simp at h0
      · refine bodyPost_ret (v := .tuple #[.slice (some ⟨g, 0, none⟩) (ms ++ [endM l.length]).length cp, .agg #[.int .i64 0, .int .i64 0]]) (by simp [results, Tryz.results17, go_sem, q0, q1]) rfl ⟨?_, hb8⟩
        rw [(show _ ∧ _ from hc).2, List.drop_length, cut_nil]
        exact ⟨g, cp, rfl, ho8⟩
    · have hk3 : k < l.length := by omega
      obtain ⟨c, hcd⟩ : ∃ c, c = l.getD k 0 := ⟨_, rfl⟩
      have hck := keep hW.bel (hT.cells k hk3)
      rw [← hcd] at hck
      have HW : Hid (Ws w w' v ms) := hW
      have HC : Hid (c = l.getD k 0) := hcd
      clear hG hE hT hW hcd hk2
      by_cases hb : isBl c = true
      · have hbl := isBlank_any c w'
        rw [hb] at hbl
        go_wp2_with (go_at_call 28; refine hbl.mono ?_; rintro e w1 ⟨rfl, rfl⟩)
        go_step3
        subst hQ
        simp only [Exit.inBlock, Exit.then, jumps_goto, five]
        have ek : ((k : Int) + 1) = ((k + 1 : Nat) : Int) := by omega
        rw [ek]
        refine ⟨⟨v, ms, k + 1, fr, MJ.mk, HW, by omega, ?_, ?_⟩, ?_⟩
        · have := (show _ ∧ _ from hc).1; omega
        · rw [(show _ ∧ _ from hc).2, step_blank hk3 (by rw [← show c = _ from HC]; exact hb)]
        · refine mu_lt (f := muM l 0) (g := muM l 0) MJ.mk hAt ?_
          simp only [muM]; omega
      · have hb' : isBl c = false := by simpa using hb
        have hbl := isBlank_any c w'
        rw [hb'] at hbl
        by_cases h35 : c = 35
        · have e35 : ((c.toNat : Int) == 35) = true := by rw [h35]; rfl
          have H35 : Hid (c = 35) := h35
          clear h35
          go_wp2_with (go_at_call 28; refine hbl.mono ?_; rintro e w1 ⟨rfl, rfl⟩)
          go_step3
          subst hQ
          simp only [Exit.inBlock, Exit.then, jumps_goto, five]
          refine ⟨⟨v, ms, k, fr, MJ.mk, HW, by omega, ?_, ?_⟩, ?_⟩
          · exact (show _ ∧ _ from hc).1
          · rw [(show _ ∧ _ from hc).2, step_hash hk3 (by rw [← show c = _ from HC]; exact hb') (by rw [← show c = _ from HC]; exact H35)]
          · refine mu_lt (f := muM l 1) (g := muM l 0) MJ.mk hAt ?_
            simp only [muM]
            rw [if_pos ⟨hk3, by rw [← show c = _ from HC, show c = 35 from H35]; decide⟩]
            omega
        · have e35 : ((c.toNat : Int) == 35) = false := by
            rw [beq_eq_false_iff_ne]; intro e; exact h35 (UInt8.toNat_inj.1 (by have : (35 : UInt8).toNat = 35 := rfl; omega))
          have H35 : Hid (c ≠ 35) := h35
          clear h35
          have hin := inRun_any c w'
          by_cases hr : inRn c = true
          · rw [hr] at hin
            go_wp2_with (first
              | (go_at_call 28; refine hbl.mono ?_; rintro e w1 ⟨rfl, rfl⟩)
              | (go_at_call 29; refine hin.mono ?_; rintro e w1 ⟨rfl, rfl⟩))
            go_step3
            subst hQ
            simp only [Exit.then, jumps_goto, five]
            refine ⟨⟨v, ms, k, k, MJ.mk, HW, by omega, hk3, Nat.le_refl _, (show _ ∧ _ from hc).1, ?_, (show _ ∧ _ from hc).2, ?_⟩, ?_⟩
            · rw [← show c = _ from HC]; exact hr
            · rw [Nat.sub_self]; rfl
            · refine mu_lt (f := muM l 2) (g := muM l 0) MJ.mk hAt ?_
              simp only [muM]
              rw [if_pos ⟨hk3, by rw [← show c = _ from HC]; exact hr⟩]
              omega
          · have hr' : inRn c = false := by simpa using hr
            rw [hr'] at hin
            go_wp2_with (first
              | (go_at_call 28; refine hbl.mono ?_; rintro e w1 ⟨rfl, rfl⟩)
              | (go_at_call 29; refine hin.mono ?_; rintro e w1 ⟨rfl, rfl⟩))
            go_step3
            subst hQ
            simp only [Exit.then, jumps_goto, five]
            refine ⟨⟨v, ms, k, k, MJ.mk, HW, hk3, rfl, (show _ ∧ _ from hc).1, ?_, ?_, ?_, (show _ ∧ _ from hc).2⟩, ?_⟩
            · rw [← show c = _ from HC]; exact hb'
            · rw [← show c = _ from HC]; exact H35
            · rw [← show c = _ from HC]; exact hr'
            · refine mu_lt (f := muM l 3) (g := muM l 0) MJ.mk hAt ?_
              simp only [muM]; omega
  · rintro a w' ⟨v, ms, k, fr, hA, hW, hk, hc⟩
    have hAt := hA.at
    obtain ⟨U, rfl⟩ := hA
    go_hide hQ
    have HW : Hid (Ws w w' v ms) := hW
    by_cases hgo : k < l.length ∧ l.getD k 0 ≠ 10
    · obtain ⟨hk3, hn10⟩ := hgo
      obtain ⟨c, hcd⟩ : ∃ c, c = l.getD k 0 := ⟨_, rfl⟩
      have hck := keep hW.bel (hT.cells k hk3)
      rw [← hcd] at hck hn10
      have HC : Hid (c = l.getD k 0) := hcd
      clear hG hE hT hW hcd
      have e10 : ((c.toNat : Int) != 10) = true := by
        rw [bne_iff_ne]; intro e; exact hn10 (UInt8.toNat_inj.1 (by have : (10 : UInt8).toNat = 10 := rfl; omega))
      have H10 : Hid (c ≠ 10) := hn10
      clear hn10
      go_wp2
      go_step3
      subst hQ
      simp only [Exit.then, jumps_goto, five]
      have ek : ((k : Int) + 1) = ((k + 1 : Nat) : Int) := by omega
      rw [ek]
      have hpc : (c != 10) = true := by rw [bne_iff_ne]; exact H10
      refine ⟨⟨v, ms, k + 1, fr, MJ.mk, HW, by omega, ?_, ?_⟩, ?_⟩
      · have := (show _ ∧ _ from hc).1; omega
      · rw [(show _ ∧ _ from hc).2, drop_at hk3, ← show c = _ from HC, List.dropWhile_cons, if_pos hpc, List.takeWhile_cons, if_pos hpc]
        rw [List.length_cons, show k + 1 + (List.takeWhile (· != 10) (l.drop (k + 1))).length = k + ((List.takeWhile (· != 10) (l.drop (k + 1))).length + 1) by omega]
      · refine mu_lt (f := muM l 1) (g := muM l 1) MJ.mk hAt ?_
        simp only [muM]
        rw [if_pos (show k < l.length ∧ l.getD k 0 ≠ 10 from ⟨hk3, by rw [← show c = _ from HC]; exact H10⟩)]
        split <;> omega
    · have hstop : (l.drop k).takeWhile (· != 10) = [] ∧ (l.drop k).dropWhile (· != 10) = l.drop k := by
        by_cases hk3 : k < l.length
        · have h10 : l.getD k 0 = 10 := by
            by_cases h : l.getD k 0 = 10
            · exact h
            · exact absurd ⟨hk3, h⟩ hgo
          rw [drop_at hk3, h10]
          exact ⟨rfl, rfl⟩
        · rw [List.drop_eq_nil_of_le (by omega)]; exact ⟨rfl, rfl⟩
      have hfin : ∀ a', MJ (.slice (some ⟨b, off, none⟩) l.length cap) (.pointer (some ⟨w.heap.size, 0, none⟩)) (.pointer (some ⟨w.heap.size + 1, 0, none⟩)) v k fr a' → ∃ v ms k fr, MJ (.slice (some ⟨b, off, none⟩) l.length cap) (.pointer (some ⟨w.heap.size, 0, none⟩)) (.pointer (some ⟨w.heap.size + 1, 0, none⟩)) v k fr a' ∧ Ws w w' v ms ∧ k ≤ l.length ∧ Hid (ms.length ≤ k ∧ cut rdN l 0 = (cut rdN (l.drop k) k).pre ms) := by
        intro a' ha'
        refine ⟨v, ms, k, fr, ha', hW, hk, (show _ ∧ _ from hc).1, ?_⟩
        have := (show _ ∧ _ from hc).2
        rw [hstop.1, hstop.2] at this
        exact this
      have hmu : muM l 0 k < muM l 1 k := by
        simp only [muM]
        rw [if_neg hgo]
        omega
      by_cases hk3 : k < l.length
      · obtain ⟨c, hcd⟩ : ∃ c, c = l.getD k 0 := ⟨_, rfl⟩
        have hck := keep hW.bel (hT.cells k hk3)
        rw [← hcd] at hck
        have e10 : ((c.toNat : Int) != 10) = false := by
          have h10 : c = 10 := by
            by_cases h : c = 10
            · exact h
            · exact absurd ⟨hk3, by rw [← hcd]; exact h⟩ hgo
          rw [h10]; rfl
        have HC : Hid (c = l.getD k 0) := hcd
        have HF : Hid _ := hfin
        have HM : Hid _ := hmu
        have HG : Hid _ := hgo
        clear hG hE hT hW hcd hfin hmu hgo hstop
        go_wp2
        go_step3
        subst hQ
        simp only [Exit.then, jumps_goto, five]
        exact ⟨(show ∀ a', _ → _ from HF) _ MJ.mk, mu_lt (f := muM l 0) (g := muM l 1) MJ.mk hAt HM⟩
      · have HF : Hid _ := hfin
        have HM : Hid _ := hmu
        have HG : Hid _ := hgo
        clear hG hE hT hW hfin hmu hgo hstop
        go_wp2
        go_step3
        subst hQ
        simp only [Exit.then, jumps_goto, five]
        exact ⟨(show ∀ a', _ → _ from HF) _ MJ.mk, mu_lt (f := muM l 0) (g := muM l 1) MJ.mk hAt HM⟩
  · rintro a w' ⟨v, ms, k, fr, hA, hW, hk, hf, hfk, hc⟩
    have hAt := hA.at
    obtain ⟨U, rfl⟩ := hA
    go_hide hQ
    have hml : ms.length ≤ 16777216 := by have := (show _ ∧ _ from hc).1; omega
    by_cases hgo : k < l.length ∧ inRn (l.getD k 0) = true
    · obtain ⟨hk3, hr⟩ := hgo
      have HW : Hid (Ws w w' v ms) := hW
      obtain ⟨c, hcd⟩ : ∃ c, c = l.getD k 0 := ⟨_, rfl⟩
      have hck := keep hW.bel (hT.cells k hk3)
      rw [← hcd] at hck hr
      have HC : Hid (c = l.getD k 0) := hcd
      have hin := inRun_any c w'
      rw [hr] at hin
      clear hG hE hT hW hcd
      go_wp2_with (go_at_call 29; refine hin.mono ?_; rintro e w1 ⟨rfl, rfl⟩)
      go_step3
      subst hQ
      simp only [Exit.then, jumps_goto, five]
      have ek : ((k : Int) + 1) = ((k + 1 : Nat) : Int) := by omega
      rw [ek]
      refine ⟨⟨v, ms, k + 1, fr, MJ.mk, HW, by omega, hf, by omega, (show _ ∧ _ from hc).1, (show _ ∧ _ from hc).2.1, (show _ ∧ _ from hc).2.2.1, ?_⟩, ?_⟩
      · rw [(show _ ∧ _ from hc).2.2.2]
        conv => lhs; rw [drop_at hk3, ← show c = _ from HC, List.takeWhile_cons, if_pos hr]
        have e1 : (l.drop fr).take (k + 1 - fr) = (l.drop fr).take (k - fr) ++ [c] := by
          rw [show k + 1 - fr = (k - fr) + 1 by omega, List.take_add_one, List.getElem?_drop, show fr + (k - fr) = k by omega, List.getElem?_eq_getElem hk3]
          rw [show c = _ from HC, List.getD_eq_getElem?_getD, List.getElem?_eq_getElem hk3]
          rfl
        rw [e1, List.append_assoc]
        rfl
      · refine mu_lt (f := muM l 2) (g := muM l 2) MJ.mk hAt ?_
        simp only [muM]
        rw [if_pos (show k < l.length ∧ inRn (l.getD k 0) = true from ⟨hk3, by rw [← show c = _ from HC]; exact hr⟩)]
        split <;> omega
    · have hend : (l.drop k).takeWhile inRn = [] := by
        by_cases hk3 : k < l.length
        · rw [drop_at hk3, List.takeWhile_cons, if_neg (fun h => hgo ⟨hk3, h⟩)]
        · rw [List.drop_eq_nil_of_le (by omega)]; rfl
      have hfk2 : fr < k := by
        have h1 := (show _ ∧ _ from hc).2.2.2
        rw [hend, List.append_nil, drop_at hf, List.takeWhile_cons, if_pos (show _ ∧ _ from hc).2.1] at h1
        have h2 := congrArg List.length h1
        simp at h2
        omega
      have hmu : muM l 0 k < muM l 2 k := by
        simp only [muM]
        rw [if_neg hgo]
        omega
      have HM4 : Hid (muM l 4 k < muM l 2 k) := by
        show muM l 4 k < muM l 2 k
        simp only [muM]
        rw [if_neg hgo]
        omega
      obtain ⟨T, hTd⟩ : ∃ T, (l.drop fr).take (k - fr) = T := ⟨_, rfl⟩
      have hpl : T.length = k - fr := by rw [← hTd]; simp; omega
      have hTne : T ≠ [] := by intro e; rw [e] at hpl; simp at hpl; omega
      have hTl : T.length ≤ 281474976710656 := by omega
      have hp := part_cells (fun t ht => keep hW.bel (hT.cells t ht)) fr (k - fr) (by omega)
      rw [hTd] at hp
      have hcv := run_conv w' b (off + fr) (k - fr) (cap - fr) T hpl hp
      have HTd : Hid ((l.drop fr).take (k - fr) = T) := hTd
      clear hp hTd
      by_cases hk3 : k < l.length
      · obtain ⟨c, hcd⟩ : ∃ c, c = l.getD k 0 := ⟨_, rfl⟩
        have hck := keep hW.bel (hT.cells k hk3)
        rw [← hcd] at hck
        have hr : inRn c = false := by
          cases h : inRn c with
          | false => rfl
          | true => exact absurd ⟨hk3, by rw [← hcd]; exact h⟩ hgo
        have hin := inRun_any c w'
        rw [hr] at hin
        have HG : Hid _ := hgo
        have HC : Hid (c = l.getD k 0) := hcd
        clear hgo hcd
        have hrm := runMark_any T fr hTne hTl w' (hG.up hW.bel) (env_keep hE hW.bel)
        cases hm : runM rdN T fr with
        | none =>
          rw [hm] at hrm
          simp only [optV, mk0] at hrm
          have hs := step_run hf hk hfk (show _ ∧ _ from hc).2.1 (show _ ∧ _ from hc).2.2.2 hend
          rw [show (l.drop fr).take (k - fr) = T from HTd, hm] at hs
          have HB : Hid (cut rdN l 0 = .bad fr) := by rw [(show _ ∧ _ from hc).2.2.1, hs]; rfl
          have HW : Hid (Ws w w' v ms) := hW
          have hT' := hcv
          clear hs hm hend hG hE hT hW hcv hmu
          go_wp2_with (first
            | (go_at_call 30; refine hrm.mono ?_; rintro e w2 ⟨rfl, hb2⟩; have hW2 := (show Ws w w' v ms from HW).up hb2; obtain ⟨x0, y0, z0, v0, h4⟩ := hW2.mv; have HW2 : Hid (Ws w w2 v ms) := hW2; clear hW2 hb2)
            | (go_at_call 29; refine hin.mono ?_; rintro e w1 ⟨rfl, hw1⟩; rw [hw1]; clear hw1)
            | (refine wpList_store4 rfl (.tmp 5) (.tmp 74) rfl (w.heap.size + 1) (.int .i64 0) (.string ⟨#[]⟩) (.complex .f64 0 0) (.int .i64 0) rfl rfl h4 ⟨rfl, rfl, rfl, rfl⟩ ?_; intro w3 s3 oth3))
          go_step3
          subst hQ
          simp only [Exit.then, jumps_goto, five]
          exact ⟨⟨v, ms, k, fr, MJ.mk, (show Ws w w2 v ms from HW2).oth oth3 s3, HB⟩, mu_lt (f := muM l 4) (g := muM l 2) MJ.mk hAt HM4⟩
        | some m =>
          rw [hm] at hrm
          simp only [optV, mkV] at hrm
          have hs := step_run hf hk hfk (show _ ∧ _ from hc).2.1 (show _ ∧ _ from hc).2.2.2 hend
          rw [show (l.drop fr).take (k - fr) = T from HTd, hm] at hs
          have hs2 : cut rdN (l.drop fr) fr = (cut rdN (l.drop k) k).pre [m] := hs
          have HB : Hid (cut rdN l 0 = (cut rdN (l.drop k) k).pre (ms ++ [m])) := by
            show cut rdN l 0 = _
            rw [(show _ ∧ _ from hc).2.2.1, hs2, ← pre_pre]
          have HW : Hid (Ws w w' v ms) := hW
          have hlow : ms.length < k := by have := (show _ ∧ _ from hc).1; omega
          have hT' := hcv
          clear hs hs2 hm hend hG hE hT hW hcv
          go_wp2_with (first
            | (go_at_call 30; refine hrm.mono ?_; rintro e w2 ⟨rfl, hb2⟩; have hW2 := (show Ws w w' v ms from HW).up hb2; obtain ⟨x0, y0, z0, v0, h4⟩ := hW2.mv; have HW2 : Hid (Ws w w2 v ms) := hW2; clear hW2 hb2)
            | (go_at_call 29; refine hin.mono ?_; rintro e w1 ⟨rfl, hw1⟩; rw [hw1]; clear hw1)
            | (refine wpList_store4 rfl (.tmp 5) (.tmp 74) rfl (w.heap.size + 1) (.int .i64 m.kind) (.string (bs m.text)) (.complex .f64 (fl m.p) (fl m.q)) (.int .i64 m.at_) rfl rfl h4 ⟨rfl, rfl, rfl, rfl⟩ ?_; intro w3 s3 oth3; have HW3 : Hid (Ws w w3 v ms) := (show Ws w w2 v ms from HW2).oth oth3 s3; have hsz := (show Ws w w3 v ms from HW3).lt)
            | (refine wpList_load4 rfl (.tmp 5) rfl (w.heap.size + 1) rfl s3 ?_)
            | (at_builtin; refine wpList_append_own _ rfl (.tmp 78) (.tmp 80) 60 rfl (w.heap.size + 2) 85 i0 (.agg #[.int .i64 0, .string ⟨#[]⟩, .complex .f64 0 0, .int .i64 0]) 4 48 Tryz.underMs hi hz0 hz1 hz2 rfl (by decide) _ _ _ rfl (owns_up (show Ws w w3 v ms from HW3).own (below_alloc _ _)) ⟨w3.heap.size, 0, none⟩ 1 1 [.int .i64 m.kind, .string (bs m.text), .complex .f64 (fl m.p) (fl m.q), .int .i64 m.at_] rfl rfl (new4 w3 [.int .i64 m.kind, .string (bs m.text), .complex .f64 (fl m.p) (fl m.q), .int .i64 m.at_] 85) (one4c _ _ _ _ _) (by unfold maxLen; omega) (by omega) (by simp; omega) ?_; intro v' w9 hown' hgrow _; have HW9 : Hid (Ws w w9 v' (ms ++ [m])) := ((show Ws w w3 v ms from HW3).up (below_alloc _ (.cells #[.int .i64 m.kind, .string (bs m.text), .complex .f64 (fl m.p) (fl m.q), .int .i64 m.at_] 85))).app (m) rfl hown' hgrow; clear hown' hgrow))
          go_step3
          subst hQ
          simp only [Exit.then, jumps_goto, five]
          refine ⟨⟨v', ms ++ [m], k, fr, MJ.mk, HW9, hk, ?_, HB⟩, mu_lt (f := muM l 0) (g := muM l 2) MJ.mk hAt hmu⟩
          simp; omega
      · have HG : Hid _ := hgo
        clear hgo
        have hrm := runMark_any T fr hTne hTl w' (hG.up hW.bel) (env_keep hE hW.bel)
        cases hm : runM rdN T fr with
        | none =>
          rw [hm] at hrm
          simp only [optV, mk0] at hrm
          have hs := step_run hf hk hfk (show _ ∧ _ from hc).2.1 (show _ ∧ _ from hc).2.2.2 hend
          rw [show (l.drop fr).take (k - fr) = T from HTd, hm] at hs
          have HB : Hid (cut rdN l 0 = .bad fr) := by rw [(show _ ∧ _ from hc).2.2.1, hs]; rfl
          have HW : Hid (Ws w w' v ms) := hW
          have hT' := hcv
          clear hs hm hend hG hE hT hW hcv hmu
          go_wp2_with (first
            | (go_at_call 30; refine hrm.mono ?_; rintro e w2 ⟨rfl, hb2⟩; have hW2 := (show Ws w w' v ms from HW).up hb2; obtain ⟨x0, y0, z0, v0, h4⟩ := hW2.mv; have HW2 : Hid (Ws w w2 v ms) := hW2; clear hW2 hb2)
            | (refine wpList_store4 rfl (.tmp 5) (.tmp 74) rfl (w.heap.size + 1) (.int .i64 0) (.string ⟨#[]⟩) (.complex .f64 0 0) (.int .i64 0) rfl rfl h4 ⟨rfl, rfl, rfl, rfl⟩ ?_; intro w3 s3 oth3))
          go_step3
          subst hQ
          simp only [Exit.then, jumps_goto, five]
          exact ⟨⟨v, ms, k, fr, MJ.mk, (show Ws w w2 v ms from HW2).oth oth3 s3, HB⟩, mu_lt (f := muM l 4) (g := muM l 2) MJ.mk hAt HM4⟩
        | some m =>
          rw [hm] at hrm
          simp only [optV, mkV] at hrm
          have hs := step_run hf hk hfk (show _ ∧ _ from hc).2.1 (show _ ∧ _ from hc).2.2.2 hend
          rw [show (l.drop fr).take (k - fr) = T from HTd, hm] at hs
          have hs2 : cut rdN (l.drop fr) fr = (cut rdN (l.drop k) k).pre [m] := hs
          have HB : Hid (cut rdN l 0 = (cut rdN (l.drop k) k).pre (ms ++ [m])) := by
            show cut rdN l 0 = _
            rw [(show _ ∧ _ from hc).2.2.1, hs2, ← pre_pre]
          have HW : Hid (Ws w w' v ms) := hW
          have hlow : ms.length < k := by have := (show _ ∧ _ from hc).1; omega
          have hT' := hcv
          clear hs hs2 hm hend hG hE hT hW hcv
          go_wp2_with (first
            | (go_at_call 30; refine hrm.mono ?_; rintro e w2 ⟨rfl, hb2⟩; have hW2 := (show Ws w w' v ms from HW).up hb2; obtain ⟨x0, y0, z0, v0, h4⟩ := hW2.mv; have HW2 : Hid (Ws w w2 v ms) := hW2; clear hW2 hb2)
            | (refine wpList_store4 rfl (.tmp 5) (.tmp 74) rfl (w.heap.size + 1) (.int .i64 m.kind) (.string (bs m.text)) (.complex .f64 (fl m.p) (fl m.q)) (.int .i64 m.at_) rfl rfl h4 ⟨rfl, rfl, rfl, rfl⟩ ?_; intro w3 s3 oth3; have HW3 : Hid (Ws w w3 v ms) := (show Ws w w2 v ms from HW2).oth oth3 s3; have hsz := (show Ws w w3 v ms from HW3).lt)
            | (refine wpList_load4 rfl (.tmp 5) rfl (w.heap.size + 1) rfl s3 ?_)
            | (at_builtin; refine wpList_append_own _ rfl (.tmp 78) (.tmp 80) 60 rfl (w.heap.size + 2) 85 i0 (.agg #[.int .i64 0, .string ⟨#[]⟩, .complex .f64 0 0, .int .i64 0]) 4 48 Tryz.underMs hi hz0 hz1 hz2 rfl (by decide) _ _ _ rfl (owns_up (show Ws w w3 v ms from HW3).own (below_alloc _ _)) ⟨w3.heap.size, 0, none⟩ 1 1 [.int .i64 m.kind, .string (bs m.text), .complex .f64 (fl m.p) (fl m.q), .int .i64 m.at_] rfl rfl (new4 w3 [.int .i64 m.kind, .string (bs m.text), .complex .f64 (fl m.p) (fl m.q), .int .i64 m.at_] 85) (one4c _ _ _ _ _) (by unfold maxLen; omega) (by omega) (by simp; omega) ?_; intro v' w9 hown' hgrow _; have HW9 : Hid (Ws w w9 v' (ms ++ [m])) := ((show Ws w w3 v ms from HW3).up (below_alloc _ (.cells #[.int .i64 m.kind, .string (bs m.text), .complex .f64 (fl m.p) (fl m.q), .int .i64 m.at_] 85))).app (m) rfl hown' hgrow; clear hown' hgrow))
          go_step3
          subst hQ
          simp only [Exit.then, jumps_goto, five]
          refine ⟨⟨v', ms ++ [m], k, fr, MJ.mk, HW9, hk, ?_, HB⟩, mu_lt (f := muM l 0) (g := muM l 2) MJ.mk hAt hmu⟩
          simp; omega
  · rintro a w' ⟨v, ms, k, fr, hA, hW, hk, hfr, hc⟩
    have hAt := hA.at
    obtain ⟨U, rfl⟩ := hA
    go_hide hQ
    have hfr' := hfr.symm
    subst hfr'
    have hml : ms.length ≤ 16777216 := by have := (show _ ∧ _ from hc).1; omega
    have hsm := signMark_any b off cap l k hk hlen hcap w' (hG.up hW.bel) (fun t ht => keep hW.bel (hT.cells t ht))
    cases hm : signM (l.drop k) k with
    | none =>
      rw [hm] at hsm
      simp only [optV, mk0] at hsm
      have hs := step_sign hk (show _ ∧ _ from hc).2.1 (show _ ∧ _ from hc).2.2.1 (show _ ∧ _ from hc).2.2.2.1
      rw [hm] at hs
      have HB : Hid (cut rdN l 0 = .bad k) := by rw [(show _ ∧ _ from hc).2.2.2.2, hs]; rfl
      have HW : Hid (Ws w w' v ms) := hW
      clear hs hm hG hE hT hW
      go_wp2_with (first
        | (go_at_call 31; refine hsm.mono ?_; rintro e w2 ⟨rfl, hb2⟩; have hW2 := (show Ws w w' v ms from HW).up hb2; obtain ⟨x0, y0, z0, v0, h4⟩ := hW2.mv; have HW2 : Hid (Ws w w2 v ms) := hW2; clear hW2 hb2)
        | (refine wpList_store4 rfl (.tmp 5) (.tmp 86) rfl (w.heap.size + 1) (.int .i64 0) (.string ⟨#[]⟩) (.complex .f64 0 0) (.int .i64 0) rfl rfl h4 ⟨rfl, rfl, rfl, rfl⟩ ?_; intro w3 s3 oth3))
      go_step3
      subst hQ
      simp only [Exit.then, jumps_goto, five]
      refine ⟨⟨v, ms, k, k, MJ.mk, (show Ws w w2 v ms from HW2).oth oth3 s3, HB⟩, mu_lt (f := muM l 4) (g := muM l 3) MJ.mk hAt ?_⟩
      simp only [muM]; omega
    | some m =>
      rw [hm] at hsm
      simp only [optV, mkV] at hsm
      have hs := step_sign hk (show _ ∧ _ from hc).2.1 (show _ ∧ _ from hc).2.2.1 (show _ ∧ _ from hc).2.2.2.1
      rw [hm] at hs
      obtain ⟨hm1, hm2⟩ := sign_len hk hm
      have hs2 : cut rdN (l.drop k) k = (cut rdN (l.drop (k + m.text.length)) (k + m.text.length)).pre [m] := hs
      have HB : Hid (cut rdN l 0 = (cut rdN (l.drop (k + m.text.length)) (k + m.text.length)).pre (ms ++ [m])) := by
        show cut rdN l 0 = _
        rw [(show _ ∧ _ from hc).2.2.2.2, hs2, ← pre_pre]
      have HW : Hid (Ws w w' v ms) := hW
      have hlow : ms.length ≤ k := (show _ ∧ _ from hc).1
      have hz := bs_size m.text
      clear hs hs2 hm hG hE hT hW
      go_wp2_with (first
        | (go_at_call 31; refine hsm.mono ?_; rintro e w2 ⟨rfl, hb2⟩; have hW2 := (show Ws w w' v ms from HW).up hb2; obtain ⟨x0, y0, z0, v0, h4⟩ := hW2.mv; have HW2 : Hid (Ws w w2 v ms) := hW2; clear hW2 hb2)
        | (refine wpList_store4 rfl (.tmp 5) (.tmp 86) rfl (w.heap.size + 1) (.int .i64 m.kind) (.string (bs m.text)) (.complex .f64 (fl m.p) (fl m.q)) (.int .i64 m.at_) rfl rfl h4 ⟨rfl, rfl, rfl, rfl⟩ ?_; intro w3 s3 oth3; have HW3 : Hid (Ws w w3 v ms) := (show Ws w w2 v ms from HW2).oth oth3 s3; have hsz := (show Ws w w3 v ms from HW3).lt)
        | (refine wpList_load4 rfl (.tmp 5) rfl (w.heap.size + 1) rfl s3 ?_)
        | (at_builtin; refine wpList_append_own _ rfl (.tmp 90) (.tmp 92) 60 rfl (w.heap.size + 2) 85 i0 (.agg #[.int .i64 0, .string ⟨#[]⟩, .complex .f64 0 0, .int .i64 0]) 4 48 Tryz.underMs hi hz0 hz1 hz2 rfl (by decide) _ _ _ rfl (owns_up (show Ws w w3 v ms from HW3).own (below_alloc _ _)) ⟨w3.heap.size, 0, none⟩ 1 1 [.int .i64 m.kind, .string (bs m.text), .complex .f64 (fl m.p) (fl m.q), .int .i64 m.at_] rfl rfl (new4 w3 [.int .i64 m.kind, .string (bs m.text), .complex .f64 (fl m.p) (fl m.q), .int .i64 m.at_] 85) (one4c _ _ _ _ _) (by unfold maxLen; omega) (by omega) (by simp; omega) ?_; intro v' w9 hown' hgrow _; have HW9 : Hid (Ws w w9 v' (ms ++ [m])) := ((show Ws w w3 v ms from HW3).up (below_alloc _ (.cells #[.int .i64 m.kind, .string (bs m.text), .complex .f64 (fl m.p) (fl m.q), .int .i64 m.at_] 85))).app (m) rfl hown' hgrow; have s9 := (s3.up (below_alloc _ (.cells #[.int .i64 m.kind, .string (bs m.text), .complex .f64 (fl m.p) (fl m.q), .int .i64 m.at_] 85))).to (B := w.heap.size + 2) (by omega) ((Below.refl _ _).grown hgrow (by simp; omega) (owns_low (show Ws w w3 v ms from HW3).own)); obtain ⟨_, c9, _, _⟩ := s9.cells; clear hown' hgrow))
      go_step3
      subst hQ
      simp only [Exit.then, jumps_goto, five]
      have ek : ((k : Int) + ((bs m.text).size : Int)) = ((k + m.text.length : Nat) : Int) := by rw [hz]; omega
      try rw [ek]
      refine ⟨⟨v', ms ++ [m], k + m.text.length, k, MJ.mk, HW9, hm2, ?_, HB⟩, mu_lt (f := muM l 0) (g := muM l 3) MJ.mk hAt ?_⟩
      · simp; omega
      · simp only [muM]; omega
  · rintro a w' ⟨v, ms, k, fr, hA, hW, hc⟩
    have hAt := hA.at
    obtain ⟨U, rfl⟩ := hA
    go_hide hQ
    have HW : Hid (Ws w w' v ms) := hW
    have hft := hW.ft
    clear hG hE hT hW
    go_wp2_with (refine wpList_store2 rfl (.tmp 3) (.tmp 100) rfl w.heap.size _ _ rfl rfl hft ⟨rfl, rfl⟩ ?_; intro w8 s8 oth8; obtain ⟨q0, q1, _, _⟩ := s8.cells)
    subst hQ
    rw [jumps_ret]
    obtain ⟨_, hb8⟩ := (show Ws w w' v ms from HW).done oth8
    refine bodyPost_ret (v := .tuple #[.slice none 0 0, .agg #[.int .i64 20, .int .i64 fr]]) (by simp [results, Tryz.results17, go_sem, q0, q1]) rfl ⟨?_, hb8⟩
    rw [show cut rdN l 0 = _ from hc]
    exact rfl

set_option maxHeartbeats 2000000 in
theorem marks_nil (ao : Option Addr) (cap : Nat) (w : World) :
    Calls Tryz.prog 17 #[.slice ao 0 cap] w fun e w' => MkAns w w' e (cut rdN [] 0) ∧ Below w.heap.size w w' := by
  obtain ⟨i0, hi, hz0, hz1, hz2⟩ := info_parts Tryz.infoMk
  go_enter Tryz.func17, Tryz.ntmps17
  go_wp2
  go_step3
  go_wp2
  go_step3
  have hft := S2.new w (.int .i64 0) (.int .i64 0)
  have h40 := S4.new (w.alloc (.cells #[.int .i64 0, .int .i64 0] 32)) (.int .i64 0) (.string ⟨#[]⟩) (.complex .f64 0 0) (.int .i64 0)
  have hW : Ws w ((w.alloc (.cells #[.int .i64 0, .int .i64 0] 32)).alloc (.cells #[.int .i64 0, .string ⟨#[]⟩, .complex .f64 0 0, .int .i64 0] 85)) (.slice none 0 0) [] := by
    refine ⟨below_two w _ _, ⟨rfl, .inl ⟨rfl, rfl⟩⟩, hft.to hft.lt (below_alloc _ _), .int .i64 0, .string ⟨#[]⟩, .complex .f64 0 0, .int .i64 0, ?_⟩
    simpa using h40
  clear hft h40
  generalize hw' : ((w.alloc (.cells #[.int .i64 0, .int .i64 0] 32)).alloc (.cells #[.int .i64 0, .string ⟨#[]⟩, .complex .f64 0 0, .int .i64 0] 85)) = w' at *
  clear hw'
  have hsz := hW.lt
  obtain ⟨v, hv⟩ : ∃ v, v = Value.slice none 0 0 := ⟨_, rfl⟩
  obtain ⟨ms, hms⟩ : ∃ ms : List Mk, ms = [] := ⟨_, rfl⟩
  have HW : Hid (Ws w w' v ms) := by rw [hv, hms]; exact hW
  clear hW
  rw [← hv]
  have hml : ms.length = 0 := by rw [hms]; rfl
  go_wp2_with (first
    | (at_builtin; refine wpList_append_own _ rfl (.tmp 14) (.tmp 17) 60 rfl (w.heap.size + 2) 85 i0 (.agg #[.int .i64 0, .string ⟨#[]⟩, .complex .f64 0 0, .int .i64 0]) 4 48 Tryz.underMs hi hz0 hz1 hz2 rfl (by decide) _ _ _ rfl (owns_up (show Ws w w' v ms from HW).own (below_alloc _ _)) ⟨w'.heap.size, 0, none⟩ 1 1 [.int .i64 4, .string ⟨#[]⟩, .complex .f64 0 0, .int .i64 0] rfl rfl (new4 w' [.int .i64 4, .string ⟨#[]⟩, .complex .f64 0 0, .int .i64 0] 85) (one4c _ _ _ _ _) (by unfold maxLen; omega) (by omega) (by simp; omega) ?_; intro v' w9 hown' hgrow _; have HW9 : Hid (Ws w w9 v' (ms ++ [endM 0])) := ((show Ws w w' v ms from HW).up (below_alloc _ (.cells #[.int .i64 4, .string ⟨#[]⟩, .complex .f64 0 0, .int .i64 0] 85))).app (endM 0) (mkC_end 0) hown' hgrow; clear hown' hgrow)
    | (refine wpList_store2 rfl (.tmp 3) (.tmp 19) rfl w.heap.size _ _ rfl rfl (show Ws w w9 v' (ms ++ [endM 0]) from HW9).ft ⟨rfl, rfl⟩ ?_; intro w8 s8 oth8; obtain ⟨q0, q1, _, _⟩ := s8.cells))
  simp only [Exit.noGoto_ret]
  obtain ⟨ho8, hb8⟩ := (show Ws w w9 v' (ms ++ [endM 0]) from HW9).done oth8
  subst hms
  rcases ho8.2 with ⟨_, h0⟩ | ⟨g, cp, cur, rfl, _⟩
  · simp at h0
  · refine bodyPost_ret (v := .tuple #[.slice (some ⟨g, 0, none⟩) ([] ++ [endM 0]).length cp, .agg #[.int .i64 0, .int .i64 0]]) (by simp [results, Tryz.results17, go_sem, q0, q1]) rfl ⟨?_, hb8⟩
    rw [cut_nil]
    exact ⟨g, cp, rfl, ho8⟩

theorem marks_any (ao : Option Addr) (cap : Nat) (l : List UInt8) (hlen : l.length ≤ 16777216) (hcap : l.length ≤ cap) (w : World) (hG : Gl w) (hE : Env w) (hT : Bd w ao l) :
    Calls Tryz.prog 17 #[.slice ao l.length cap] w fun e w' => MkAns w w' e (cut rdN l 0) ∧ Below w.heap.size w w' := by
  by_cases hl : l = []
  · subst hl
    exact marks_nil ao cap w
  · obtain ⟨b, off, rfl, _⟩ := hT.pl hl
    exact marks_some b off cap l hl hlen hcap w hG hE hT
end Go.Proofs.YtndgglhppoijnaaGreatDoor
