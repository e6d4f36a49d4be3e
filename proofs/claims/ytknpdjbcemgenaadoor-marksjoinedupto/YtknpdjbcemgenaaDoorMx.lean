/-
  What Marks answers, as values; the walk of free.
-/
import Derived.Test.YtknpdjbcemgenaaDoorMi
namespace Go.Proofs.YtknpdjbcemgenaaDoor
open Go.RowKit
set_option maxRecDepth 100000

/-- The marks that are answered, and the fault's two cells. -/
def msC : Cu → List Mk
  | .ok ms => ms
  | .bad _ => []
def fwC : Cu → Int
  | .ok _ => 0
  | .bad _ => 20
def faC : Cu → Int
  | .ok _ => 0
  | .bad k => k

theorem marks_val (ao : Option Addr) (cap : Nat) (l : List UInt8) (hlen : l.length ≤ 1048576) (hcap : l.length ≤ cap) (w : World) (hG : Gl w) (hE : Env w) (hT : Bd w ao l) :
    Calls Tryd.prog 10 #[.slice ao l.length cap] w fun e w' => ∃ go c, e = .returned (.tuple #[.slice go (msC (cut rdN l 0)).length c, .agg #[.int .i64 (fwC (cut rdN l 0)), .int .i64 (faC (cut rdN l 0))]]) ∧
      w'.ownsRow w.heap.size 40 4 (.slice go (msC (cut rdN l 0)).length c) (msC (cut rdN l 0)).length (mksC (msC (cut rdN l 0))) ∧ Mr w' go (msC (cut rdN l 0)) ∧ Below w.heap.size w w' := by
  refine (marks_any ao cap l hlen hcap w hG hE hT).mono ?_
  rintro e w' ⟨ha, hb⟩
  cases hc : cut rdN l 0 with
  | ok ms =>
    rw [hc] at ha
    obtain ⟨g, c, rfl, ho⟩ := ha
    exact ⟨some ⟨g, 0, none⟩, c, rfl, ho, Mr.of ho, hb⟩
  | bad k =>
    rw [hc] at ha
    exact ⟨none, 0, ha, ⟨rfl, .inl ⟨rfl, rfl⟩⟩, Mr.nil _ _, hb⟩

theorem frB_at {l : List UInt8} {k : Nat} (b : Bool) (h : k < l.length) : frB b (l.drop k) = if l.getD k 0 == 10 then frB false (l.drop (k + 1)) else if l.getD k 0 == 35 then frB true (l.drop (k + 1)) else if !b && !isBl (l.getD k 0) then false else frB b (l.drop (k + 1)) := by
  rw [drop_at h]; rfl

theorem byte_eq (c d : UInt8) (n : Nat) (hd : d.toNat = n) : ((c.toNat : Int) == (n : Int)) = (c == d) := by
  rw [Bool.eq_iff_iff]
  simp only [beq_iff_eq, ← UInt8.toNat_inj]
  omega

set_option maxHeartbeats 2000000 in
theorem free_some (b off cap : Nat) (l : List UInt8) (hlen : l.length ≤ 1048576) (w : World) (hc : ∀ t, t < l.length → w.cell? ⟨b, off + t, none⟩ = some (.int .u8 ((l.getD t 0).toNat : Int))) :
    Calls Tryd.prog 17 #[.slice (some ⟨b, off, none⟩) l.length cap] w fun e w' => e = .returned (.bool (frB false l)) ∧ w' = w := by
  obtain ⟨N, hN⟩ : ∃ N, N = frB false l := ⟨_, rfl⟩
  rw [← hN]
  go_enter Tryd.func17, Tryd.ntmps17
  go_wp2
  go_loop [3, 4] (fun x i => ∃ (k : Nat) (q : Bool), k ≤ l.length ∧ x = .bool q ∧ i = .int .i64 k ∧ Hid (N = frB q (l.drop k))) (fun _ i => l.length - (intOf i).toNat)
  case atStart => exact ⟨0, false, Nat.zero_le _, rfl, rfl, hN⟩
  case round =>
    clear hN
    obtain ⟨k, q, hk, rfl, rfl, hq⟩ := hrel
    by_cases hk3 : k < l.length
    · obtain ⟨c, hcd⟩ : ∃ c, c = l.getD k 0 := ⟨_, rfl⟩
      have hck := hc k hk3
      rw [← hcd] at hck
      have HQ : Hid (N = if c == 10 then frB false (l.drop (k + 1)) else if c == 35 then frB true (l.drop (k + 1)) else if !q && !isBl c then false else frB q (l.drop (k + 1))) := by
        show N = _
        rw [show N = _ from hq, frB_at q hk3, ← hcd]
      have hbl := refBlank_any c w
      have e10 := byte_eq c 10 10 rfl
      have e35 := byte_eq c 35 35 rfl
      clear hc hq hcd
      generalize isBl c = bl at *
      cases h10 : c == 10 with
      | true =>
        rw [h10] at e10 HQ
        have f10 : ((c.toNat : Int) == 10) = true := e10
        clear e10 e35 h10
        go_wp2
        go_round
        case rel => exact ⟨k + 1, false, by omega, rfl, by go_num, HQ⟩
        case measure => simp [intOf]; omega
      | false =>
        rw [h10] at e10 HQ
        have f10 : ((c.toNat : Int) == 10) = false := e10
        cases h35 : c == 35 with
        | true =>
          rw [h35] at e35 HQ
          have f35 : ((c.toNat : Int) == 35) = true := e35
          clear e10 e35 h10 h35
          go_wp2
          go_round
          case rel => exact ⟨k + 1, true, by omega, rfl, by go_num, HQ⟩
          case measure => simp [intOf]; omega
        | false =>
          rw [h35] at e35 HQ
          have f35 : ((c.toNat : Int) == 35) = false := e35
          clear e10 e35 h10 h35
          cases q with
          | true =>
            go_wp2
            go_round
            case rel => exact ⟨k + 1, true, by omega, rfl, by go_num, HQ⟩
            case measure => simp [intOf]; omega
          | false =>
            cases bl with
            | true =>
              go_wp2_with (go_at_call 22; refine hbl.mono ?_; rintro e w' ⟨rfl, hw'⟩; rw [hw']; clear hw')
              go_round
              case rel => exact ⟨k + 1, false, by omega, rfl, by go_num, HQ⟩
              case measure => simp [intOf]; omega
            | false =>
              go_wp2_with (go_at_call 22; refine hbl.mono ?_; rintro e w' ⟨rfl, hw'⟩; rw [hw']; clear hw')
              go_ret
              exact ⟨ret_bool (show N = _ from HQ).symm, rfl⟩
    · have hke : k = l.length := by omega
      subst hke
      go_wp2
      go_ret
      refine ⟨ret_bool ?_, rfl⟩
      rw [show N = _ from hq, List.drop_length]
      simp [frB]

set_option maxHeartbeats 400000 in
theorem free_nil (ao : Option Addr) (cap : Nat) (w : World) :
    Calls Tryd.prog 17 #[.slice ao 0 cap] w fun e w' => e = .returned (.bool true) ∧ w' = w := by
  go_enter Tryd.func17, Tryd.ntmps17
  go_wp2
  refine wp_loop_rounds 1 ?_
  rw [rounds_succ]
  go_wp2
  go_ret
  exact ⟨rfl, rfl⟩
end Go.Proofs.YtknpdjbcemgenaaDoor
