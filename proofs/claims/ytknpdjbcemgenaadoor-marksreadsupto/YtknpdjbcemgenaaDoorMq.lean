/-
  The walk of MarksReads.
-/
import Derived.Test.YtknpdjbcemgenaaDoorMo
import Derived.Test.YtknpdjbcemgenaaDoorBp
namespace Go.Proofs.YtknpdjbcemgenaaDoor
open Go.RowKit
set_option maxRecDepth 100000

set_option maxHeartbeats 4000000 in
theorem reads_any (ao : Option Addr) (cap : Nat) (l : List UInt8) (hlen : l.length ≤ 1048576) (hcap : l.length ≤ cap) (hn : ao = none → cap = 0) (w : World) (hG : Gl w) (hE : Env w) (hT : Bd w ao l) :
    Calls Tryd.prog 3 #[.slice ao l.length cap] w fun e w' => e = .returned (.bool true) ∧ Below w.heap.size w w' := by
  go_enter Tryd.func3, Tryd.ntmps3
  go_wp2_with (first
    | (go_at_call 9; refine (awake_any _ hG hE).mono ?_; rintro e w1 ⟨rfl, hB1⟩; obtain ⟨v', w2, hr, ho, hb2⟩ := own_app _ _ _ _ (Own.new w1) (by simp) ao cap l ((hT.up hB1).up (below_alloc _ _)) hn (by simp) (by omega); rw [List.nil_append] at ho; obtain ⟨a2, c2, hv2, hbd2, hcp2, _, _⟩ := ho.bd; subst hv2; have HR : Hid (_ = _) := hr; have hB2 : Below w.heap.size w w2 := hB1.trans (((below_alloc w1 _).trans hb2).mono hB1.size); clear hr ho hb2)
    | (at_builtin; refine wpList_append_run rfl (.tmp 10) (.tmp 11) 22 rfl rfl _ _ rfl rfl _ _ (show _ = _ from HR) ?_))
  refine (marks_any a2 c2 l hlen hcp2 w2 (hG.up hB2) (env_keep hE hB2) hbd2).mono ?_
  rintro e w3 ⟨hans, hb3⟩
  have hB3 := Below.thn hB2 hb3
  clear hB2 hb3 hbd2 HR hB1
  cases hcut : cut rdN l 0 with
  | bad k =>
    rw [hcut] at hans
    rw [show e = _ from hans]
    clear hans
    have hrf := refMarks_any ao cap l hlen hcap (w3.alloc (.cells #[.int .i64 20, .int .i64 k] 27)) (hT.up (bal hB3))
    rw [hcut] at hrf
    go_wp2_with (go_at_call 11; refine hrf.mono ?_; rintro e w4 ⟨hans4, hb4⟩; rw [show e = _ from hans4]; clear hans4; obtain ⟨f0, f1, _, _⟩ := ((S2.new w3 (.int .i64 20) (.int .i64 k)).to (by simp) hb4).cells)
    go_ret
    exact ⟨rfl, Below.thn (bal hB3) hb4⟩
  | ok ms =>
    rw [hcut] at hans
    obtain ⟨g, c, rfl, ho3⟩ := hans
    have hrf := refMarks_any ao cap l hlen hcap (w3.alloc (.cells #[.int .i64 0, .int .i64 0] 27)) (hT.up (bal hB3))
    rw [hcut] at hrf
    have hr3 := (Mr.of ho3).up (below_alloc w3 (.cells #[.int .i64 0, .int .i64 0] 27))
    have hfew := cut_few _ _ _ hcut
    have hokn := okN_get (cut_okN _ _ _ hcut)
    clear ho3
    go_wp2_with (first
      | (go_at_call 11; refine hrf.mono ?_; rintro e w4 ⟨⟨g4, c4, rfl, ho4⟩, hb4⟩; obtain ⟨f0, f1, _, _⟩ := ((S2.new w3 (.int .i64 0) (.int .i64 0)).to (by simp) hb4).cells; have hsm := same_any true (some ⟨g, 0, none⟩) (some ⟨g4, 0, none⟩) c c4 ms ms rfl (by omega) w4 (hr3.up hb4) (Mr.of ho4) (fun t _ => eqM_refl _ _) hokn; have hB4 := Below.thn (bal hB3) hb4; clear ho4 hb4)
      | (go_at_call 12; refine hsm.mono ?_; rintro e w5 ⟨rfl, hb5⟩))
    go_ret
    exact ⟨rfl, Below.thn hB4 hb5⟩
end Go.Proofs.YtknpdjbcemgenaaDoor
