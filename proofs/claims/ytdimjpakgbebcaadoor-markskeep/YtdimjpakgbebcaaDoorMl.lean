/-
  The walk of the document's sign.
-/
import Derived.Test.YtdimjpakgbebcaaDoorMj
namespace Go.Proofs.YtdimjpakgbebcaaDoor
open Go.RowKit
set_option maxRecDepth 100000

/-- How long a sign is, by numbers: c the byte, d the next one (256: there is none). -/
def sgN (c d : Nat) : Int := if (c = 45 ∧ d = 62) ∨ (c = 61 ∧ d = 61) then 2 else if c = 40 ∨ c = 41 ∨ c = 44 ∨ c = 58 ∨ c = 59 ∨ c = 61 ∨ c = 43 ∨ c = 45 ∨ c = 42 ∨ c = 47 ∨ c = 60 ∨ c = 124 then 1 else 0

theorem sgN_eq (c : UInt8) (r : List UInt8) : ((signL (c :: r)).length : Int) = sgN c.toNat ((r.head?.map UInt8.toNat).getD 256) := by
  have hc : ∀ d : UInt8, (c = d ↔ c.toNat = d.toNat) := fun d => UInt8.toNat_inj.symm
  have hs : (signsL.contains c = true) ↔ (c.toNat = 40 ∨ c.toNat = 41 ∨ c.toNat = 44 ∨ c.toNat = 58 ∨ c.toNat = 59 ∨ c.toNat = 61 ∨ c.toNat = 43 ∨ c.toNat = 45 ∨ c.toNat = 42 ∨ c.toNat = 47 ∨ c.toNat = 60 ∨ c.toNat = 124) := by
    rw [List.contains_iff_mem]
    simp [signsL, hc]
  have h2 : (((c == 45 && r.head? == some 62) || (c == 61 && r.head? == some 61)) = true) ↔ ((c.toNat = 45 ∧ (r.head?.map UInt8.toNat).getD 256 = 62) ∨ (c.toNat = 61 ∧ (r.head?.map UInt8.toNat).getD 256 = 61)) := by
    cases r with
    | nil => simp
    | cons d r =>
      have hd : ∀ e : UInt8, (d = e ↔ d.toNat = e.toNat) := fun e => UInt8.toNat_inj.symm
      simp [hc, hd]
  have h3 : (((c == 45 && r.head? == some 62) || (c == 61 && r.head? == some 61)) = true) → r ≠ [] := by
    intro h e; subst e; simp at h
  unfold signL sgN
  dsimp only
  by_cases h : ((c == 45 && r.head? == some 62) || (c == 61 && r.head? == some 61)) = true
  · rw [if_pos h, if_pos (h2.1 h)]
    cases r with
    | nil => exact absurd rfl (h3 h)
    | cons d r => rfl
  · rw [if_neg h, if_neg (fun g => h (h2.2 g))]
    by_cases h : signsL.contains c = true
    · rw [if_pos h, if_pos (hs.1 h)]; rfl
    · rw [if_neg h, if_neg (fun g => h (hs.2 g))]; rfl

set_option maxHeartbeats 4000000 in
theorem refsign_two (b off cap : Nat) (l : List UInt8) (k c d : Nat) (hlen : l.length ≤ 16777216) (hk : k + 1 < l.length) (w : World) (hc : w.cell? ⟨b, off + k, none⟩ = some (.int .u8 (c : Int))) (hd : w.cell? ⟨b, off + (k + 1), none⟩ = some (.int .u8 (d : Int))) :
    Calls Tryd.prog 24 #[.slice (some ⟨b, off, none⟩) l.length cap, .int .i64 k] w fun e w' => e = .returned (.int .i64 (sgN c d)) ∧ w' = w := by
  go_enter Tryd.func24, Tryd.ntmps24
  go_wp2
  all_goals go_ret
  all_goals refine ⟨ret_int ?_, rfl⟩
  all_goals clear hc
  all_goals unfold sgN
  all_goals try simp only [beq_iff_eq, beq_eq_false_iff_ne, ne_eq] at *
  all_goals first
    | (rw [if_pos (by omega)])
    | (rw [if_neg (by omega), if_pos (by omega)])
    | (rw [if_neg (by omega), if_neg (by omega)])

set_option maxHeartbeats 4000000 in
theorem refsign_one (b off cap : Nat) (l : List UInt8) (k c : Nat) (hlen : l.length ≤ 16777216) (hk : k + 1 = l.length) (w : World) (hc : w.cell? ⟨b, off + k, none⟩ = some (.int .u8 (c : Int))) :
    Calls Tryd.prog 24 #[.slice (some ⟨b, off, none⟩) l.length cap, .int .i64 k] w fun e w' => e = .returned (.int .i64 (sgN c 256)) ∧ w' = w := by
  go_enter Tryd.func24, Tryd.ntmps24
  go_wp2
  all_goals go_ret
  all_goals refine ⟨ret_int ?_, rfl⟩
  all_goals clear hc
  all_goals unfold sgN
  all_goals try simp only [beq_iff_eq, beq_eq_false_iff_ne, ne_eq] at *
  all_goals first
    | (rw [if_pos (by omega)])
    | (rw [if_neg (by omega), if_pos (by omega)])
    | (rw [if_neg (by omega), if_neg (by omega)])

theorem refsign_any (b off cap : Nat) (l : List UInt8) (k : Nat) (hlen : l.length ≤ 16777216) (hk : k < l.length) (w : World) (hc : ∀ t, t < l.length → w.cell? ⟨b, off + t, none⟩ = some (.int .u8 ((l.getD t 0).toNat : Int))) :
    Calls Tryd.prog 24 #[.slice (some ⟨b, off, none⟩) l.length cap, .int .i64 k] w fun e w' => e = .returned (.int .i64 ((signL (l.drop k)).length : Nat)) ∧ w' = w := by
  rw [drop_at hk, sgN_eq]
  by_cases h : k + 1 < l.length
  · have e : (l.drop (k + 1)).head? = some (l.getD (k + 1) 0) := by rw [drop_at h]; rfl
    rw [e]
    exact refsign_two b off cap l k _ _ hlen h w (hc k hk) (hc (k + 1) h)
  · rw [List.drop_eq_nil_of_le (by omega)]
    exact refsign_one b off cap l k _ hlen (by omega) w (hc k hk)
end Go.Proofs.YtdimjpakgbebcaaDoor
