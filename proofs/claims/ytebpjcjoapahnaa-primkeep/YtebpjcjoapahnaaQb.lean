/-
  The walk of kept: a value and one of the same words.
-/
import Derived.Test.YtebpjcjoapahnaaPz
import Derived.Deep.QuietTactic
import Derived.BigQuiet
namespace Go.Proofs.Ytebpjcjoapahnaa
open Go.RowKit
set_option maxRecDepth 100000

set_option maxHeartbeats 2000000 in
theorem kept_any (v : Rv) (a1 a2 : Option Addr) (c1 c2 : Nat) (w : World) (h1 : Vr w a1 v) (h2 : Vr w a2 v) :
    Calls Try.prog 20 #[vV a1 c1 v, vV a2 c2 v] w fun e w' => e = .returned (.bool true) ∧ Below w.heap.size w w' := by
  have k1 := (h1.alloc (vObj a1 c1 v)).alloc (vObj a2 c2 v)
  have k2 := (h2.alloc (vObj a1 c1 v)).alloc (vObj a2 c2 v)
  have b0 := Below.thn (below_alloc w (vObj a1 c1 v)) (below_alloc _ (vObj a2 c2 v))
  have m1 := (V4.new w a1 c1 v).up (below_alloc _ (vObj a2 c2 v))
  have m2 := V4.new (w.alloc (vObj a1 c1 v)) a2 c2 v
  have hsz : (w.alloc (vObj a1 c1 v)).heap.size = w.heap.size + 1 := by simp
  rw [hsz] at m2
  have hn := h1.n
  obtain ⟨t, ⟨x, y⟩, r, zs⟩ := v
  unfold vV vObj at *
  simp only at *
  have K1 : Hid (Zr _ a1 zs) := k1.l
  have K2 : Hid (Zr _ a2 zs) := k2.l
  obtain ⟨p0, p1, p2, p3⟩ := m1
  obtain ⟨q0, q1, q2, q3⟩ := m2
  simp only [Nat.zero_add] at p0 p1 p2 p3 q0 q1 q2 q3
  clear h1 h2 k1 k2 hsz
  generalize hnn0 : zs.length = n at *
  have hnn : Hid (n = zs.length) := hnn0.symm
  clear hnn0
  generalize hW : (w.alloc (.cells #[.int .i64 t, .complex .f64 x y, .bool r, .slice a1 n c1] 32)).alloc (.cells #[.int .i64 t, .complex .f64 x y, .bool r, .slice a2 n c2] 32) = W at *
  cases ho1 : (FloatKind.f64.format.order x x == some Ordering.eq)
  all_goals
    cases ho2 : (FloatKind.f64.format.order y y == some Ordering.eq)
    all_goals
      go_enter Try.func20, Try.ntmps20
      go_wp2
      go_loopw [5] (fun i wr => ∃ k : Nat, k ≤ n ∧ i = .int .i64 k ∧ ∃ d, wr = W.drewN d) (fun i _ => n - (intOf i).toNat)
      case atStart => exact ⟨0, Nat.zero_le _, rfl, 0, (World.drewN_zero _).symm⟩
      case round =>
        obtain ⟨k, hkn, rfl, d, rfl⟩ := hrel
        by_cases hlt : k < n
        · have hk : k < zs.length := by rw [← hnn.out]; exact hlt
          obtain ⟨g1, o1, rfl, e1⟩ := K1.out.pl (by intro e; rw [e] at hk; simp at hk)
          obtain ⟨g2, o2, rfl, e2⟩ := K2.out.pl (by intro e; rw [e] at hk; simp at hk)
          have f1 := e1 k hk
          have f2 := e2 k hk
          generalize zs.getD k (0, 0) = z at *
          obtain ⟨zx, zy⟩ := z
          simp only at f1 f2
          clear e1 e2 K1 K2 hk
          cases hz1 : (FloatKind.f64.format.order zx zx == some Ordering.eq)
          all_goals
            cases hz2 : (FloatKind.f64.format.order zy zy == some Ordering.eq)
            all_goals
              go_wp2
              go_quiet (fail)
              go_wp2
              go_roundw
              case rel => exact ⟨k + 1, by omega, by go_num, _, rfl⟩
              case measure => simp [intOf]; omega
        · have hke : k = n := by omega
          subst hke
          go_wp2
          go_ret
          exact ⟨rfl, below_drewN b0 _⟩
end Go.Proofs.Ytebpjcjoapahnaa
