/-
  The walk of the document's one: the mark at a place.
-/
import Derived.Test.YtdimjpakgbebcaaDoorMl
namespace Go.Proofs.YtdimjpakgbebcaaDoor
open Go.RowKit
set_option maxRecDepth 100000

theorem alloc_size (w : World) (o : Obj) : (w.alloc o).heap.size = w.heap.size + 1 := by simp

/-- The mark at hand, laid as the second block. -/
theorem second4 (w : World) : S4 ((w.alloc z4).alloc z4) w.heap.size (.int .i64 0) (.string ⟨#[]⟩) (.complex .f64 0 0) (.int .i64 0) ∧ S4 ((w.alloc z4).alloc z4) (w.heap.size + 1) (.int .i64 0) (.string ⟨#[]⟩) (.complex .f64 0 0) (.int .i64 0) := two4 w _ _ _ _ _ _ _ _

section
variable (b off cap : Nat) (l : List UInt8) (k : Nat) (hlen : l.length ≤ 16777216) (hcap : l.length ≤ cap) (hk : k < l.length) (w : World) (hc : ∀ t, t < l.length → w.cell? ⟨b, off + t, none⟩ = some (.int .u8 ((l.getD t 0).toNat : Int)))
include hlen hcap hk hc

set_option maxHeartbeats 2000000 in
theorem one_name (T : List UInt8) (hT : (l.drop k).takeWhile inRn = T) (hn : 0 < T.length) (hd : isDg (l.getD k 0) = false) (hu : l.getD k 0 ≠ 95) :
    Calls Tryd.prog 15 #[.slice (some ⟨b, off, none⟩) l.length cap, .int .i64 k] w fun e w' => e = .returned (.tuple #[mkV ⟨if isWd T then 1 else 0, T, 0, 0, k⟩, .bool true]) ∧ Below w.heap.size w w' := by
  have b1 := below_alloc w z4
  have hc1 : ∀ t, t < l.length → (w.alloc z4).cell? ⟨b, off + t, none⟩ = some (.int .u8 ((l.getD t 0).toNat : Int)) := fun t ht => keep b1 (hc t ht)
  have hrun := refrun_any b off cap l k hlen (by omega) (w.alloc z4) hc1
  have htl := tw_len inRn (l.drop k)
  rw [List.length_drop, hT] at htl
  have hpl : ((l.drop k).take T.length) = T := by have := tw_take inRn (l.drop k); rw [hT] at this; exact this
  have hcv := run_conv (w.alloc z4) b (off + k) T.length (cap - k) ((l.drop k).take T.length) (by rw [hpl]) (part_cells hc1 k T.length (by omega))
  rw [hpl] at hcv
  rw [hT] at hrun
  obtain ⟨s1, s2⟩ := second4 w
  have b2 := below_two w z4 z4
  obtain ⟨c, hcd⟩ : ∃ c, c = l.getD k 0 := ⟨_, rfl⟩
  have hdg := fun W => refdigit_any c W
  rw [← hcd] at hd hu
  rw [hd] at hdg
  have h95 : ((c.toNat : Int) == 95) = false := by
    rw [beq_eq_false_iff_ne]; intro e; exact hu (UInt8.toNat_inj.1 (by have : (95 : UInt8).toNat = 95 := rfl; omega))
  have hck := hc k hk
  rw [← hcd] at hck
  have hres := fun W => refReserved_any T W
  clear hT hpl hcd hu
  cases hw : isWd T with
  | true =>
    rw [hw] at hres
    go_enter Tryd.func15, Tryd.ntmps15
    go_wp2_with (first
      | (go_at_call 19; refine hrun.mono ?_; rintro e w' ⟨rfl, hw'⟩; rw [hw']; clear hw')
      | (refine wpList_store4 rfl (.tmp 7) (.tmp 21) rfl (w.heap.size + 1) _ _ _ _ rfl rfl s2 ⟨rfl, rfl, rfl, rfl⟩ ?_; intro w1 s3 oth; have s4 := oth.s4 s1 (by omega); have hb := b2.trans (oth.below (Nat.le_succ _)); have hck1 := keep hb hck; obtain ⟨_, d1, _, _⟩ := s3.cells; clear s1 s2 oth b2 hc hc1 hcv hrun hck)
      | (go_at_call 20; refine (hdg _).mono ?_; rintro e w' ⟨rfl, hw'⟩; rw [hw']; clear hw')
      | (go_at_call 23; refine (hres _).mono ?_; rintro e w2 ⟨rfl, hb2⟩; have s5 := s3.up hb2; have s6 := s4.up hb2; have hB := Below.thn hb hb2; have t5 := s5.set0 (.int .i64 1); have t6 := s6.other (a := ⟨w.heap.size + 1, 0, none⟩) (by simp) (.int .i64 1); obtain ⟨c0, c1, c2, c3⟩ := s5.cells; obtain ⟨f0, f1, f2, f3⟩ := s5.frz)
      | (refine wpList_load4 rfl (.tmp 7) rfl (w.heap.size + 1) rfl t5 ?_)
      | (refine wpList_store4 rfl (.tmp 4) (.tmp 63) rfl (w.heap.size) _ _ _ _ rfl rfl t6 ⟨rfl, rfl, rfl, rfl⟩ ?_; intro w3 s7 oth2; obtain ⟨q0, q1, q2, q3⟩ := s7.cells))
    refine bodyPost_ret (v := .tuple #[mkV ⟨1, T, 0, 0, k⟩, .bool true]) (by simp [results, Tryd.results15, go_sem, q0, q1, q2, q3, mkV, fl_zero]) rfl ⟨rfl, ?_⟩
    exact (hB.setCell (Nat.le_succ _) _).trans (oth2.below (Nat.le_refl _))
  | false =>
    rw [hw] at hres
    go_enter Tryd.func15, Tryd.ntmps15
    go_wp2_with (first
      | (go_at_call 19; refine hrun.mono ?_; rintro e w' ⟨rfl, hw'⟩; rw [hw']; clear hw')
      | (refine wpList_store4 rfl (.tmp 7) (.tmp 21) rfl (w.heap.size + 1) _ _ _ _ rfl rfl s2 ⟨rfl, rfl, rfl, rfl⟩ ?_; intro w1 s3 oth; have s4 := oth.s4 s1 (by omega); have hb := b2.trans (oth.below (Nat.le_succ _)); have hck1 := keep hb hck; obtain ⟨_, d1, _, _⟩ := s3.cells; clear s1 s2 oth b2 hc hc1 hcv hrun hck)
      | (go_at_call 20; refine (hdg _).mono ?_; rintro e w' ⟨rfl, hw'⟩; rw [hw']; clear hw')
      | (go_at_call 23; refine (hres _).mono ?_; rintro e w2 ⟨rfl, hb2⟩; have s5 := s3.up hb2; have s6 := s4.up hb2; have hB := Below.thn hb hb2)
      | (refine wpList_load4 rfl (.tmp 7) rfl (w.heap.size + 1) rfl s5 ?_)
      | (refine wpList_store4 rfl (.tmp 4) (.tmp 63) rfl (w.heap.size) _ _ _ _ rfl rfl s6 ⟨rfl, rfl, rfl, rfl⟩ ?_; intro w3 s7 oth2; obtain ⟨q0, q1, q2, q3⟩ := s7.cells))
    refine bodyPost_ret (v := .tuple #[mkV ⟨0, T, 0, 0, k⟩, .bool true]) (by simp [results, Tryd.results15, go_sem, q0, q1, q2, q3, mkV, fl_zero]) rfl ⟨rfl, ?_⟩
    exact hB.trans (oth2.below (Nat.le_refl _))

set_option maxHeartbeats 2000000 in
theorem one_us (T : List UInt8) (hT : (l.drop k).takeWhile inRn = T) (hn : 0 < T.length) (hu : l.getD k 0 = 95) :
    Calls Tryd.prog 15 #[.slice (some ⟨b, off, none⟩) l.length cap, .int .i64 k] w fun e w' => e = .returned (.tuple #[mkV ⟨0, T, 0, 0, k⟩, .bool false]) ∧ Below w.heap.size w w' := by
  have b1 := below_alloc w z4
  have hc1 : ∀ t, t < l.length → (w.alloc z4).cell? ⟨b, off + t, none⟩ = some (.int .u8 ((l.getD t 0).toNat : Int)) := fun t ht => keep b1 (hc t ht)
  have hrun := refrun_any b off cap l k hlen (by omega) (w.alloc z4) hc1
  have htl := tw_len inRn (l.drop k)
  rw [List.length_drop, hT] at htl
  have hpl : ((l.drop k).take T.length) = T := by have := tw_take inRn (l.drop k); rw [hT] at this; exact this
  have hcv := run_conv (w.alloc z4) b (off + k) T.length (cap - k) ((l.drop k).take T.length) (by rw [hpl]) (part_cells hc1 k T.length (by omega))
  rw [hpl] at hcv
  rw [hT] at hrun
  obtain ⟨s1, s2⟩ := second4 w
  have b2 := below_two w z4 z4
  obtain ⟨c, hcd⟩ : ∃ c, c = l.getD k 0 := ⟨_, rfl⟩
  have hdg := fun W => refdigit_any c W
  have hd : isDg c = false := by rw [hcd, hu]; decide
  rw [hd] at hdg
  have h95 : ((c.toNat : Int) == 95) = true := by rw [hcd, hu]; rfl
  have hck := hc k hk
  rw [← hcd] at hck
  clear hT hpl hcd hu hc
  go_enter Tryd.func15, Tryd.ntmps15
  go_wp2_with (first
      | (go_at_call 19; refine hrun.mono ?_; rintro e w' ⟨rfl, hw'⟩; rw [hw']; clear hw')
      | (refine wpList_store4 rfl (.tmp 7) (.tmp 21) rfl (w.heap.size + 1) _ _ _ _ rfl rfl s2 ⟨rfl, rfl, rfl, rfl⟩ ?_; intro w1 s3 oth; have s4 := oth.s4 s1 (by omega); have hb := b2.trans (oth.below (Nat.le_succ _)); have hck1 := keep hb hck; obtain ⟨_, d1, _, _⟩ := s3.cells; clear s1 s2 oth b2 hc1 hcv hrun hck)
      | (go_at_call 20; refine (hdg _).mono ?_; rintro e w' ⟨rfl, hw'⟩; rw [hw']; clear hw')
      | (refine wpList_load4 rfl (.tmp 7) rfl (w.heap.size + 1) rfl s3 ?_)
      | (refine wpList_store4 rfl (.tmp 4) (.tmp 55) rfl (w.heap.size) _ _ _ _ rfl rfl s4 ⟨rfl, rfl, rfl, rfl⟩ ?_; intro w3 s7 oth2; obtain ⟨q0, q1, q2, q3⟩ := s7.cells))
  refine bodyPost_ret (v := .tuple #[mkV ⟨0, T, 0, 0, k⟩, .bool false]) (by simp [results, Tryd.results15, go_sem, q0, q1, q2, q3, mkV, fl_zero]) rfl ⟨rfl, ?_⟩
  exact hb.trans (oth2.below (Nat.le_refl _))

set_option maxHeartbeats 4000000 in
theorem one_num (T : List UInt8) (hT : (l.drop k).takeWhile inRn = T) (hn : 0 < T.length) (hd : isDg (l.getD k 0) = true) :
    Calls Tryd.prog 15 #[.slice (some ⟨b, off, none⟩) l.length cap, .int .i64 k] w fun e w' => e = .returned (.tuple #[mkV ⟨2, T, rdP T, rdQ T, k⟩, .bool (rdE T == 0)]) ∧ Below w.heap.size w w' := by
  have b1 := below_alloc w z4
  have hc1 : ∀ t, t < l.length → (w.alloc z4).cell? ⟨b, off + t, none⟩ = some (.int .u8 ((l.getD t 0).toNat : Int)) := fun t ht => keep b1 (hc t ht)
  have hrun := refrun_any b off cap l k hlen (by omega) (w.alloc z4) hc1
  have htl := tw_len inRn (l.drop k)
  rw [List.length_drop, hT] at htl
  have hpl : ((l.drop k).take T.length) = T := by have := tw_take inRn (l.drop k); rw [hT] at this; exact this
  have hcv := run_conv (w.alloc z4) b (off + k) T.length (cap - k) ((l.drop k).take T.length) (by rw [hpl]) (part_cells hc1 k T.length (by omega))
  rw [hpl] at hcv
  rw [hT] at hrun
  obtain ⟨s1, s2⟩ := second4 w
  have b2 := below_two w z4 z4
  obtain ⟨c, hcd⟩ : ∃ c, c = l.getD k 0 := ⟨_, rfl⟩
  have hdg := fun W => refdigit_any c W
  rw [← hcd] at hd
  rw [hd] at hdg
  have hck := hc k hk
  rw [← hcd] at hck
  have hpa := fun W => refparse_w T (by omega) W
  obtain ⟨x, hx⟩ : ∃ x, x = rdP T := ⟨_, rfl⟩
  obtain ⟨y, hy⟩ : ∃ y, y = rdQ T := ⟨_, rfl⟩
  obtain ⟨z, hz⟩ : ∃ z, z = rdE T := ⟨_, rfl⟩
  rw [← hx, ← hy, ← hz] at hpa ⊢
  clear hT hpl hcd hc hx hy hz hd
  go_enter Tryd.func15, Tryd.ntmps15
  go_wp2_with (first
      | (go_at_call 19; refine hrun.mono ?_; rintro e w' ⟨rfl, hw'⟩; rw [hw']; clear hw')
      | (refine wpList_store4 rfl (.tmp 7) (.tmp 21) rfl (w.heap.size + 1) _ _ _ _ rfl rfl s2 ⟨rfl, rfl, rfl, rfl⟩ ?_; intro w1 s3 oth; have s4 := oth.s4 s1 (by omega); have hb := b2.trans (oth.below (Nat.le_succ _)); have hck1 := keep hb hck; obtain ⟨_, d1, _, _⟩ := s3.cells; clear s1 s2 oth b2 hc1 hcv hrun hck)
      | (go_at_call 20; refine (hdg _).mono ?_; rintro e w' ⟨rfl, hw'⟩; rw [hw']; clear hw')
      | (go_at_call 21; refine (hpa _).mono ?_; rintro e w2 ⟨rfl, hb2⟩; have s5 := s3.up hb2; have s6 := s4.up hb2; have hB := Below.thn hb hb2; have hl1 := s5.lt; have s7 := s5.alloc (.cells #[.int .i64 x, .int .i64 y] 50); have s8 := s6.alloc (.cells #[.int .i64 x, .int .i64 y] 50); have hB2 := Below.thn hB (below_alloc w2 (.cells #[.int .i64 x, .int .i64 y] 50)); obtain ⟨c0, c1, c2, c3⟩ := s7.cells; obtain ⟨f0, f1, f2, f3⟩ := s7.frz)
      | (go_at_call 22; refine (refz_any _ _ _).mono ?_; rintro e w4 ⟨rfl, hw4⟩; have s9 := ((s5.set0 (.int .i64 2)).alloc (.cells #[.int .i64 x, .int .i64 y] 50)).alloc (.cells #[.int .i64 x, .int .i64 y] 50); have s10 := ((s6.other (a := ⟨w.heap.size + 1, 0, none⟩) (by simp) (.int .i64 2)).alloc (.cells #[.int .i64 x, .int .i64 y] 50)).alloc (.cells #[.int .i64 x, .int .i64 y] 50); have hB3 := bal (o := .cells #[.int .i64 x, .int .i64 y] 50) (bal (o := .cells #[.int .i64 x, .int .i64 y] 50) (hB.setCell (p := ⟨w.heap.size + 1, 0, none⟩) (Nat.le_succ _) (.int .i64 2))); rw [← hw4] at s9 s10 hB3; clear hw4; have t9 := s9.set2 (.complex .f64 (fl x) (fl y)); have t10 := s10.other (a := ⟨w.heap.size + 1, 2, none⟩) (by simp) (.complex .f64 (fl x) (fl y)))
      | (refine wpList_store1 rfl 32 (.tmp 41) (.tmp 40) rfl (w.heap.size + 1) 2 (.complex .f64 (fl x) (fl y)) rfl rfl rfl (sv_cplx _ _ _ _) (by rw [s9.cells.2.2.1]; rfl) s9.frz.2.2.1 ?_)
      | (refine wpList_load4 rfl (.tmp 7) rfl (w.heap.size + 1) rfl t9 ?_)
      | (refine wpList_store4 rfl (.tmp 4) (.tmp 42) rfl (w.heap.size) _ _ _ _ rfl rfl t10 ⟨rfl, rfl, rfl, rfl⟩ ?_; intro w3 s11 oth2; obtain ⟨q0, q1, q2, q3⟩ := s11.cells))
  refine bodyPost_ret (v := .tuple #[mkV ⟨2, T, x, y, k⟩, .bool (z == 0)]) (by simp [results, Tryd.results15, go_sem, q0, q1, q2, q3, mkV]) rfl ⟨rfl, ?_⟩
  exact (hB3.setCell (Nat.le_succ _) _).trans (oth2.below (Nat.le_refl _))

set_option maxHeartbeats 2000000 in
theorem one_sign (hT : (l.drop k).takeWhile inRn = []) :
    Calls Tryd.prog 15 #[.slice (some ⟨b, off, none⟩) l.length cap, .int .i64 k] w fun e w' => e = .returned (.tuple #[mkV ⟨3, signL (l.drop k), 0, 0, k⟩, .bool (decide (0 < (signL (l.drop k)).length))]) ∧ Below w.heap.size w w' := by
  have b1 := below_alloc w z4
  have hc1 : ∀ t, t < l.length → (w.alloc z4).cell? ⟨b, off + t, none⟩ = some (.int .u8 ((l.getD t 0).toNat : Int)) := fun t ht => keep b1 (hc t ht)
  have hrun := refrun_any b off cap l k hlen (by omega) (w.alloc z4) hc1
  rw [hT] at hrun
  have hcv := run_conv (w.alloc z4) b (off + k) 0 (cap - k) [] rfl (fun t ht => absurd ht (by omega))
  obtain ⟨S, hS⟩ : ∃ S, S = signL (l.drop k) := ⟨_, rfl⟩
  have hSl : k + S.length ≤ l.length ∧ (l.drop k).take S.length = S := by
    by_cases he : S = []
    · rw [he]; exact ⟨by simp; omega, rfl⟩
    · rw [hS, drop_at hk] at he
      obtain ⟨_, g2, g3⟩ := signL_pos he
      rw [hS]
      rw [← drop_at hk] at g2 g3
      rw [List.length_drop] at g2
      exact ⟨by omega, g3⟩
  obtain ⟨hSl, hSt⟩ := hSl
  have hsg := fun W h => refsign_any b off cap l k hlen hk W h
  rw [← hS] at hsg ⊢
  obtain ⟨s1, s2⟩ := second4 w
  have b2 := below_two w z4 z4
  have HC : Hid (∀ t, t < l.length → w.cell? ⟨b, off + t, none⟩ = some (.int .u8 ((l.getD t 0).toNat : Int))) := hc
  clear hT hc hS
  go_enter Tryd.func15, Tryd.ntmps15
  go_wp2_with (first
      | (go_at_call 19; refine hrun.mono ?_; rintro e w' ⟨rfl, hw'⟩; rw [hw']; clear hw')
      | (refine wpList_store4 rfl (.tmp 7) (.tmp 21) rfl (w.heap.size + 1) _ _ _ _ rfl rfl s2 ⟨rfl, rfl, rfl, rfl⟩ ?_; intro w1 s3 oth; have s4 := oth.s4 s1 (by omega); have hb := b2.trans (oth.below (Nat.le_succ _)); clear s1 s2 oth b2 hc1 hcv hrun; obtain ⟨c0, c1, c2, c3⟩ := s3.cells; obtain ⟨f0, f1, f2, f3⟩ := s3.frz; have s5 := s3.set0 (.int .i64 3); have s6 := s4.other (a := ⟨w.heap.size + 1, 0, none⟩) (by simp) (.int .i64 3); have t5 := s5.set1 (.string (bs S)); have t6 := s6.other (a := ⟨w.heap.size + 1, 1, none⟩) (by simp) (.string (bs S)); have hB := hb.setCell (p := ⟨w.heap.size + 1, 0, none⟩) (Nat.le_succ _) (.int .i64 3); have hcv2 := run_conv (w1.setCell ⟨w.heap.size + 1, 0, none⟩ (.int .i64 3)) b (off + k) S.length (cap - k) ((l.drop k).take S.length) (by rw [hSt]) (part_cells (fun t ht => keep hB ((show ∀ t, t < l.length → _ from HC) t ht)) k S.length hSl); rw [hSt] at hcv2; have hsg1 := hsg w1 (fun t ht => keep hb ((show ∀ t, t < l.length → _ from HC) t ht)))
      | (go_at_call 24; refine hsg1.mono ?_; rintro e w' ⟨rfl, hw'⟩; rw [hw']; clear hw')
      | (refine wpList_load4 rfl (.tmp 7) rfl (w.heap.size + 1) rfl t5 ?_)
      | (refine wpList_store4 rfl (.tmp 4) (.tmp 76) rfl (w.heap.size) _ _ _ _ rfl rfl t6 ⟨rfl, rfl, rfl, rfl⟩ ?_; intro w3 s7 oth2; obtain ⟨q0, q1, q2, q3⟩ := s7.cells))
  refine bodyPost_ret (v := .tuple #[mkV ⟨3, S, 0, 0, k⟩, .bool (decide (0 < S.length))]) (by simp [results, Tryd.results15, go_sem, q0, q1, q2, q3, mkV, fl_zero]) rfl ⟨rfl, ?_⟩
  exact (hB.setCell (Nat.le_succ _) _).trans (oth2.below (Nat.le_refl _))

/-- What the document's one answers: the mark, if there is one. -/
theorem one_any :
    Calls Tryd.prog 15 #[.slice (some ⟨b, off, none⟩) l.length cap, .int .i64 k] w fun e w' => (∃ m, e = .returned (.tuple #[mkV m, .bool (oneM rdN (l.drop k) k).isSome]) ∧ ∀ m', oneM rdN (l.drop k) k = some m' → m = m') ∧ Below w.heap.size w w' := by
  have hone : oneM rdN (l.drop k) k = if inRn (l.getD k 0) then runM rdN ((l.drop k).takeWhile inRn) k else signM (l.drop k) k := by
    rw [drop_at hk]
    rfl
  rw [hone]
  clear hone
  by_cases hr : inRn (l.getD k 0) = true
  · rw [if_pos hr]
    obtain ⟨T, hT⟩ : ∃ T, (l.drop k).takeWhile inRn = T := ⟨_, rfl⟩
    have hTc : T = l.getD k 0 :: (l.drop (k + 1)).takeWhile inRn := by rw [← hT, drop_at hk, List.takeWhile_cons, if_pos hr]
    have hn : 0 < T.length := by rw [hTc]; simp
    rw [hT]
    by_cases hd : isDg (l.getD k 0) = true
    · have hw : isWd T = false := by
        cases h : isWd T with
        | false => rfl
        | true =>
          obtain ⟨c, r, e, hlt, _⟩ := isWd_head h
          rw [hTc] at e
          cases e
          rw [isLt_eq, decide_eq_true_eq] at hlt
          rw [isDg_eq, decide_eq_true_eq] at hd
          omega
      refine (one_num b off cap l k hlen hcap hk w hc T hT hn hd).mono ?_
      rintro e w' ⟨rfl, hb⟩
      have hrm : runM rdN T k = if rdOk T then some ⟨2, T, rdP T, rdQ T, k⟩ else none := by
        rw [hTc] at hw ⊢
        unfold runM
        rw [hw]
        dsimp only
        rw [if_neg (by simp), if_pos hd]
        rfl
      rw [hrm]
      refine ⟨⟨⟨2, T, rdP T, rdQ T, k⟩, ?_, ?_⟩, hb⟩
      · unfold rdE
        cases rdOk T <;> rfl
      · intro m' h
        split at h
        · cases h; rfl
        · cases h
    · have hd' : isDg (l.getD k 0) = false := by simpa using hd
      by_cases hu : l.getD k 0 = 95
      · refine (one_us b off cap l k hlen hcap hk w hc T hT hn hu).mono ?_
        rintro e w' ⟨rfl, hb⟩
        have hrm : runM rdN T k = none := by
          have hw : isWd T = false := by
            cases h : isWd T with
            | false => rfl
            | true =>
              obtain ⟨c, r, e, hlt, _⟩ := isWd_head h
              rw [hTc, hu] at e
              cases e
              exact absurd hlt (by decide)
          rw [hTc, hu] at hw ⊢
          unfold runM
          rw [hw]
          rfl
        rw [hrm]
        exact ⟨⟨_, rfl, fun m' h => by cases h⟩, hb⟩
      · refine (one_name b off cap l k hlen hcap hk w hc T hT hn hd' hu).mono ?_
        rintro e w' ⟨rfl, hb⟩
        have hlt : isLt (l.getD k 0) = true := by
          rw [inRn_eq, decide_eq_true_eq] at hr
          rw [isDg_eq, decide_eq_false_iff_not] at hd'
          have hu' : (l.getD k 0).toNat ≠ 95 := fun e => hu (UInt8.toNat_inj.1 e)
          rw [isLt_eq, decide_eq_true_eq]
          omega
        have hrm : runM rdN T k = some ⟨if isWd T then 1 else 0, T, 0, 0, k⟩ := by
          unfold runM
          cases hw : isWd T with
          | true => rfl
          | false =>
            rw [if_neg (by simp)]
            conv => lhs; rw [hTc]
            dsimp only
            rw [hd', hlt, ← hTc]
            rfl
        rw [hrm]
        exact ⟨⟨_, rfl, fun m' h => by cases h; rfl⟩, hb⟩
  · rw [if_neg hr]
    have hT : (l.drop k).takeWhile inRn = [] := by rw [drop_at hk, List.takeWhile_cons, if_neg hr]
    refine (one_sign b off cap l k hlen hcap hk w hc hT).mono ?_
    rintro e w' ⟨rfl, hb⟩
    refine ⟨⟨⟨3, signL (l.drop k), 0, 0, k⟩, ?_, ?_⟩, hb⟩
    · unfold signM
      by_cases h : signL (l.drop k) = []
      · rw [if_pos h, h]; rfl
      · rw [if_neg h]
        have : 0 < (signL (l.drop k)).length := List.length_pos_iff.2 h
        simp [this]
    · intro m' h
      unfold signM at h
      split at h
      · cases h
      · cases h; rfl
end
end Go.Proofs.YtdimjpakgbebcaaDoor
