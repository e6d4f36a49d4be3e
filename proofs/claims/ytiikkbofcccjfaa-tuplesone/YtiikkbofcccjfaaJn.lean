/-
  The walk of Join.
-/
import Derived.Test.YtiikkbofcccjfaaRz
namespace Go.Proofs.Ytiikkbofcccjfaa
open Go.RowKit
open RowsM

set_option maxHeartbeats 2000000 in
theorem join_any (n m : Int) (ao bo : Option Addr) (ca cb : Nat) (xs ys : List Nat) (w : World) (h : Rd w ao xs) (g : Rd w bo ys) (hl : xs.length ≤ 17592186043904) (gl : ys.length ≤ 17592186043904) :
    Calls Try.prog 30 #[.agg #[.int .i64 n, .slice ao xs.length ca], .agg #[.int .i64 m, .slice bo ys.length cb]] w fun e w' =>
      ∃ so cap, e = .returned (.tuple #[.agg #[.int .i64 (if okP n m xs ys then n else 0), .slice so (opL joinW n m xs ys).length cap], .int .i64 (if okP n m xs ys then 0 else 3)]) ∧ Fresh w w' so cap (opL joinW n m xs ys) ∧ Below w.heap.size w w' := by
  obtain ⟨s1, s2⟩ := st_two w (.int .i64 n) (.slice ao xs.length ca) (.int .i64 m) (.slice bo ys.length cb)
  have b2 := below_two w (.cells #[.int .i64 n, .slice ao xs.length ca] 41) (.cells #[.int .i64 m, .slice bo ys.length cb] 41)
  have s3 := St.new ((w.alloc (.cells #[.int .i64 n, .slice ao xs.length ca] 41)).alloc (.cells #[.int .i64 m, .slice bo ys.length cb] 41)) (.int .i64 0) (.slice none 0 0)
  have e2 : ((w.alloc (.cells #[.int .i64 n, .slice ao xs.length ca] 41)).alloc (.cells #[.int .i64 m, .slice bo ys.length cb] 41)).heap.size = w.heap.size + 2 := by simp
  rw [e2] at s3
  clear e2
  have s1 := s1.alloc (.cells #[.int .i64 0, .slice none 0 0] 41)
  have s2 := s2.alloc (.cells #[.int .i64 0, .slice none 0 0] 41)
  have b2 := Below.thn b2 (below_alloc _ (.cells #[.int .i64 0, .slice none 0 0] 41))
  have h2 := h.up b2
  have g2 := g.up b2
  have hlow : ao ≠ none → xs ≠ [] → ∀ b off, ao = some ⟨b, off, none⟩ → b < w.heap.size := fun _ hz b off e => by subst e; exact h.lt_block hz
  have glow : bo ≠ none → ys ≠ [] → ∀ b off, bo = some ⟨b, off, none⟩ → b < w.heap.size := fun _ hz b off e => by subst e; exact g.lt_block hz
  clear h g
  have hcp := checkPair_any n m ao bo ca cb xs ys _ h2 g2 hl gl
  cases hx : okP n m xs ys with
  | false =>
    rw [hx] at hcp
    simp only [Bool.false_eq_true, if_false] at hcp
    rw [opL_no hx]
    go_enter Try.func30, Try.ntmps30
    go_wp2_with fail
    refine hcp.mono ?_
    rintro e w1 ⟨rfl, hb1⟩
    have b3 := Below.thn b2 hb1
    obtain ⟨q0, q1, q2, q3⟩ := (s3.up hb1).cells
    clear s1 s2 s3 h2 g2 b2 hb1 hlow glow
    go_wp2
    refine bodyPost_ret (v := .tuple #[.agg #[.int .i64 0, .slice none 0 0], .int .i64 3]) (by simp [results, Try.results30, go_sem, q0, q1]) rfl ⟨none, 0, by simp, ⟨by simp, .inl ⟨rfl, rfl, rfl⟩⟩, ?_⟩
    exact (b3.setCell (by show w.heap.size ≤ w.heap.size + 2; omega) _).setCell (by show w.heap.size ≤ w.heap.size + 2; omega) _
  | true =>
    rw [hx] at hcp
    simp only [if_true] at hcp
    have hlen := okP_len hx
    obtain ⟨n0, n1, hln⟩ := okP_facts hx
    have hzl : ∀ z, z ∈ List.zipWith joinW xs ys → z < 18446744073709551616 := zip_lt (fun _ _ => join_lt) h2.lt g2.lt
    rw [opL_yes hx]
    have HL : Hid (xs.length = ys.length) := hlen
    have HN : Hid (xs.length = ((n + 31) / 32).toNat) := hln
    clear hlen hln
    go_enter Try.func30, Try.ntmps30
    go_wp2_with fail
    refine hcp.mono ?_
    rintro e w1 ⟨rfl, hb1⟩
    have s1 := s1.up hb1
    have s2 := s2.up hb1
    have s3 := s3.up hb1
    have h3 := h2.up hb1
    have g3 := g2.up hb1
    have b3 := Below.thn b2 hb1
    clear h2 g2 b2 hb1
    obtain ⟨c0, c1, _, _⟩ := s1.cells
    go_wp2_with fail
    refine (blank_at n xs.length n0 n1 HN _).mono ?_
    rintro e w2 ⟨G, rfl, ho, hg, hb2⟩
    have hG : w.heap.size + 2 < G := by have := s3.lt; omega
    have hG2 : G < w2.heap.size := ho.lt
    have s1 := s1.up hb2
    have s2 := s2.up hb2
    have s3 := s3.up hb2
    have h4 := h3.up hb2
    have g4 := g3.up hb2
    have b4 := Below.thn b3 hb2
    have s1 := s1.alloc (.cells #[.int .i64 n, .slice (some ⟨G, 0, none⟩) xs.length xs.length] 41)
    have s2 := s2.alloc (.cells #[.int .i64 n, .slice (some ⟨G, 0, none⟩) xs.length xs.length] 41)
    have s3 := s3.alloc (.cells #[.int .i64 n, .slice (some ⟨G, 0, none⟩) xs.length xs.length] 41)
    have s4 := St.new w2 (.int .i64 n) (.slice (some ⟨G, 0, none⟩) xs.length xs.length)
    have h5 := h4.alloc (.cells #[.int .i64 n, .slice (some ⟨G, 0, none⟩) xs.length xs.length] 41)
    have g5 := g4.alloc (.cells #[.int .i64 n, .slice (some ⟨G, 0, none⟩) xs.length xs.length] 41)
    have ho := ho.alloc (.cells #[.int .i64 n, .slice (some ⟨G, 0, none⟩) xs.length xs.length] 41)
    have b5 := Below.thn b4 (below_alloc _ (.cells #[.int .i64 n, .slice (some ⟨G, 0, none⟩) xs.length xs.length] 41))
    clear h3 g3 b3 hb2 c0 c1 h4 g4 b4 hg
    obtain ⟨c0, c1, _, _⟩ := s1.cells
    by_cases hz : xs = []
    · have hoz := ho
      obtain ⟨o0, o1, _, _⟩ := s4.cells
      obtain ⟨q0, q1, q2, q3⟩ := s3.cells
      subst hz
      clear s1 s2 s3 s4 h5 g5 hlow glow hcp
      simp only [List.length_nil] at c1 q0 q1 q2 q3 o0 o1 hoz b5
      go_wp2
      generalize (w2.alloc (.cells #[.int .i64 n, .slice (some ⟨G, 0, none⟩) 0 0] 41)) = W3 at *
      refine wp_loop_rounds 1 ?_
      rw [rounds_succ]
      go_wp2
      refine bodyPost_ret (v := .tuple #[.agg #[.int .i64 n, .slice (some ⟨G, 0, none⟩) 0 0], .int .i64 0]) (by simp [results, Try.results30, go_sem, q0, q1]) rfl ⟨some ⟨G, 0, none⟩, 0, by simp, ⟨by simp, .inr ⟨G, rfl, by simp, ?_, by omega⟩⟩, ?_⟩
      · exact (hoz.other (by show G ≠ w.heap.size + 2; omega) _).other (by show G ≠ w.heap.size + 2; omega) _
      · exact (b5.setCell (by show w.heap.size ≤ w.heap.size + 2; omega) _).setCell (by show w.heap.size ≤ w.heap.size + 2; omega) _
    · obtain ⟨ba, oa, rfl, hca⟩ := h5.pl hz
      have hzy : ys ≠ [] := by intro e; subst e; have := show xs.length = _ from HL; simp at this; exact hz this
      obtain ⟨bb, ob, rfl, hcb⟩ := g5.pl hzy
      have hba := hlow (by simp) hz _ _ rfl
      have hbb := glow (by simp) hzy _ _ rfl
      have hxl := h5.get_lt
      have hyl := g5.get_lt
      clear h5 g5 hlow glow hcp
      go_wp2
      generalize (w2.alloc (.cells #[.int .i64 n, .slice (some ⟨G, 0, none⟩) xs.length xs.length] 41)) = W3 at *
      go_loopw [24] (fun i wr => ∃ k : Nat, k ≤ xs.length ∧ i = .int .i64 k ∧ Oth G W3 wr ∧ Hid (Ob wr G (part joinW xs ys k))) (fun i _ => xs.length - (intOf i).toNat)
      case atStart => exact ⟨0, Nat.zero_le _, rfl, Oth.refl _ _, by rw [part_zero]; exact ho⟩
      case round =>
        obtain ⟨k, hk, rfl, hoth, hob⟩ := hrel
        have HK : Hid (Ob wr G (part joinW xs ys k)) := hob
        by_cases hlt : k < xs.length
        · obtain ⟨x, hxe⟩ : ∃ x, x = xs.getD k 0 := ⟨_, rfl⟩
          obtain ⟨y, hye⟩ : ∃ y, y = ys.getD k 0 := ⟨_, rfl⟩
          have hlt2 : k < ys.length := by rw [← show xs.length = _ from HL]; exact hlt
          have ha := (hoth.cell (a := ⟨ba, oa + k, none⟩) (by show ba ≠ G; omega)).trans (hca k hlt)
          have hb := (hoth.cell (a := ⟨bb, ob + k, none⟩) (by show bb ≠ G; omega)).trans (hcb k hlt2)
          have hx0 := hxl k
          have hy0 := hyl k
          rw [← hxe] at ha hx0
          rw [← hye] at hb hy0
          have HX : Hid (x = xs.getD k 0) := hxe
          have HY : Hid (y = ys.getD k 0) := hye
          obtain ⟨d0, d1, _, _⟩ := (hoth.st s2 (by omega)).cells
          obtain ⟨o0, o1, _, _⟩ := (hoth.st s4 (by omega)).cells
          have hkl : k < (part joinW xs ys k).length := by rw [part_len _ _ _ HL k hk]; exact hlt
          have gk := (show Ob wr G _ from HK).cell hkl
          have gf := (show Ob wr G _ from HK).free k
          clear hxe hye hca hcb hxl hyl hob s1 s2 s3 s4 hkl
          go_wp2_with fail
          go_region_with (first
            | (go_at_call 54; refine (above_any x y _ hx0 hy0).mono ?_; rintro e w' ⟨rfl, rfl⟩)
            | (go_at_call 53; refine (pick_any _ x y _ above_lt hx0 hy0).mono ?_; rintro e w' ⟨rfl, rfl⟩))
          all_goals
            go_wp2
            go_roundw
            case rel =>
              refine ⟨k + 1, by omega, by go_num, (hoth.set k _).drew, ?_⟩
              have hs := (show Ob wr G _ from HK).set k (joinW x y)
              rw [show x = _ from HX, show y = _ from HY, part_set joinW xs ys HL k hlt] at hs
              rw [show x = _ from HX, show y = _ from HY]
              exact hs
            case measure => simp [intOf]; omega
        · have hke : k = xs.length := by omega
          subst hke
          have hoz := show Ob wr G _ from HK
          rw [part_end joinW xs ys HL] at hoz
          have hzlen : (List.zipWith joinW xs ys).length = xs.length := by rw [List.length_zipWith, ← show xs.length = ys.length from HL, Nat.min_self]
          obtain ⟨o0, o1, _, _⟩ := (hoth.st s4 (by omega)).cells
          obtain ⟨q0, q1, q2, q3⟩ := (hoth.st s3 (by omega)).cells
          have hbl := hoth.below b5 (by omega)
          clear hca hcb hxl hyl hob HK s1 s2 s3 s4 c0 c1
          go_wp2
          refine bodyPost_ret (v := .tuple #[.agg #[.int .i64 n, .slice (some ⟨G, 0, none⟩) xs.length xs.length], .int .i64 0]) (by simp [results, Try.results30, go_sem, q0, q1]) rfl ⟨some ⟨G, 0, none⟩, xs.length, by simp, ⟨hzl, .inr ⟨G, rfl, hzlen.symm, ?_, by omega⟩⟩, ?_⟩
          · exact (hoz.other (by show G ≠ w.heap.size + 2; omega) _).other (by show G ≠ w.heap.size + 2; omega) _
          · exact (hbl.setCell (by show w.heap.size ≤ w.heap.size + 2; omega) _).setCell (by show w.heap.size ≤ w.heap.size + 2; omega) _
end Go.Proofs.Ytiikkbofcccjfaa
