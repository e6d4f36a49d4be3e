/-
  The walk of MarksCover, the empty text.
-/
import Derived.Test.YtknpdjbcemgenaaDoorMv
namespace Go.Proofs.YtknpdjbcemgenaaDoor
open Go.RowKit
set_option maxRecDepth 100000

theorem run_conv0 (x : Option Addr) (c : Nat) (w : World) : (convert 22 9 (.slice x 0 c)).run Tryd.prog w = .ok (.string (bs [])) w := by
  rw [run_convert_bytes_string w 22 9 5 _ _ _ (by kernel_rfl) (by kernel_rfl) (by kernel_rfl)]
  cases x with
  | none => rfl
  | some a => exact run_bytesToString (P := Tryd.prog) w a 0 c [] rfl

set_option maxHeartbeats 8000000 in
theorem cover_nil (ao : Option Addr) (cap : Nat) (hn : ao = none → cap = 0) (w : World) (hG : Gl w) (hE : Env w) :
    Calls Tryd.prog 5 #[.slice ao 0 cap] w fun e w' => e = .returned (.bool true) ∧ Below w.heap.size w w' := by
  go_enter Tryd.func5, Tryd.ntmps5
  go_wp2_with (go_at_call 9; refine (awake_any _ hG hE).mono ?_; rintro e w1 ⟨rfl, hB1⟩)
  refine (marks_val ao cap [] (by simp) (by simp) w1 (hG.up hB1) (env_keep hE hB1) (Bd.nil _ _)).mono ?_
  rintro e w2 ⟨go, c2, rfl, _, hr, hb2⟩
  have hB2 := Below.thn hB1 hb2
  rw [cut_nil] at hr ⊢
  simp only [msC, fwC, faC, List.length_cons, List.length_nil, Nat.zero_add] at hr ⊢
  obtain ⟨g, og, rfl, hm4⟩ := hr.pl (by simp)
  have hB3 := bal (o := .cells #[.int .i64 0, .int .i64 0] 27) hB2
  have hM := (hm4 0 (by simp)).to (hm4 0 (by simp)).lt (below_alloc w2 (.cells #[.int .i64 0, .int .i64 0] 27))
  have hG3 := hG.up hB3
  clear hm4 hr hb2 hE hG hB1 hB2
  go_wp2
  generalize w2.alloc (.cells #[.int .i64 0, .int .i64 0] 27) = w3 at *
  have hM' : M4 w3 g og (endM 0) := by simpa using hM
  obtain ⟨l1, l2, l3, l4⟩ := hM'
  have hs := S4.new w3 (.int .i64 0) (.string ⟨#[]⟩) (.complex .f64 0 0) (.int .i64 0)
  rw [show (endM 0).kind = 4 from rfl] at l1
  rw [show (endM 0).text = [] from rfl] at l2
  rw [show (endM 0).p = 0 from rfl, show (endM 0).q = 0 from rfl, fl_zero] at l3
  rw [show (endM 0).at_ = 0 from rfl] at l4
  clear hM
  refine wp_loop_rounds 2 ?_
  rw [rounds_succ]
  go_wp2_with (refine wpList_store4 rfl (.tmp 7) (.tmp 47) rfl w3.heap.size _ _ _ _ rfl rfl hs ⟨rfl, rfl, rfl, rfl⟩ ?_; intro w4 s4 oth4)
  have hB4 := Below.thn hB3 ((below_alloc w3 _).trans (oth4.below (Nat.le_refl _)))
  have hG4 := hG3.up ((below_alloc w3 _).trans (oth4.below (Nat.le_refl _)))
  obtain ⟨t1, t2, t3, t4⟩ := s4.cells
  have hcv := run_conv0
  have hb0 : (bs []).size = 0 := rfl
  have hw0 : IntKind.i64.wrap (0 : Int) = 0 := by decide
  have hem : (bs []).toList.isEmpty = true := by rw [bs_toList]; rfl
  have hrs := fun q => reserved_any [] (w4.drewN q) ⟨hG4.wd, hG4.sg⟩
  rw [show isWd [] = false from rfl] at hrs
  cases ao with
  | none =>
    have hc0 := hn rfl
    subst hc0
    go_quiet (first | (go_at_call 17; refine Calls.quiet_of_same (free_nil _ _ _)))
    go_wp2
    generalize hw5 : w4.drewN _ = w5
    have s5 : S4 w5 w3.heap.size (.int .i64 4) (.string (bs [])) (.complex .f64 0 0) (.int .i64 0) := by rw [← hw5]; exact s4
    have hG5 : Gl w5 := by rw [← hw5]; exact ⟨hG4.wd, hG4.sg⟩
    have hB5 : Below w.heap.size w w5 := by rw [← hw5]; exact below_drewN hB4 _
    clear hw5 s4 hG4 hB4 t1 t2 t3 t4 hcv hrs hG3 hB3 l1 l2 l3 l4 hs
    obtain ⟨t1, t2, t3, t4⟩ := s5.cells
    have hrs := fun q => reserved_any [] (w5.drewN q) ⟨hG5.wd, hG5.sg⟩
    rw [show isWd [] = false from rfl] at hrs
    go_quiet (first | (go_at_call 15; refine Calls.quiet_of_same (hrs _)))
    go_wp2
    rw [rounds_succ]
    go_wp2
    go_ret
    exact ⟨rfl, below_drewN hB5 _⟩
  | some a =>
    clear hn
    go_quiet (first | (go_at_call 17; refine Calls.quiet_of_same (free_nil _ _ _)))
    go_wp2
    generalize hw5 : w4.drewN _ = w5
    have s5 : S4 w5 w3.heap.size (.int .i64 4) (.string (bs [])) (.complex .f64 0 0) (.int .i64 0) := by rw [← hw5]; exact s4
    have hG5 : Gl w5 := by rw [← hw5]; exact ⟨hG4.wd, hG4.sg⟩
    have hB5 : Below w.heap.size w w5 := by rw [← hw5]; exact below_drewN hB4 _
    clear hw5 s4 hG4 hB4 t1 t2 t3 t4 hcv hrs hG3 hB3 l1 l2 l3 l4 hs
    obtain ⟨t1, t2, t3, t4⟩ := s5.cells
    have hrs := fun q => reserved_any [] (w5.drewN q) ⟨hG5.wd, hG5.sg⟩
    rw [show isWd [] = false from rfl] at hrs
    go_quiet (first | (go_at_call 15; refine Calls.quiet_of_same (hrs _)))
    go_wp2
    rw [rounds_succ]
    go_wp2
    go_ret
    exact ⟨rfl, below_drewN hB5 _⟩

theorem cover_any (ao : Option Addr) (cap : Nat) (l : List UInt8) (hlen : l.length ≤ 1048576) (hcap : l.length ≤ cap) (hn : ao = none → cap = 0) (w : World) (hG : Gl w) (hE : Env w) (hT : Bd w ao l) :
    Calls Tryd.prog 5 #[.slice ao l.length cap] w fun e w' => e = .returned (.bool true) ∧ Below w.heap.size w w' := by
  by_cases hl : l = []
  · subst hl
    exact cover_nil ao cap hn w hG hE
  · obtain ⟨b, off, rfl, _⟩ := hT.pl hl
    exact cover_some b off cap l hl hlen hcap w hG hE hT
end Go.Proofs.YtknpdjbcemgenaaDoor
