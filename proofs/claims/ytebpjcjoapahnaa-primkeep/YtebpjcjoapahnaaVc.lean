/-
  Values in memory; the walks of zero, allNumbers, sound, Check.
-/
import Derived.Test.YtebpjcjoapahnaaRf
import Derived.Test.YtebpjcjoapahnaaWd
import Derived.Test.YtebpjcjoapahnaaVa
namespace Go.Proofs.Ytebpjcjoapahnaa
open Go.RowKit
open Go.Lib
set_option maxRecDepth 100000

theorem below_alloc (w : World) (o : Obj) : Below w.heap.size w (w.alloc o) := Below.alloc (Below.refl _ _) (Nat.le_refl _) _
theorem Below.thn {a b c : World} (h : Below a.heap.size a b) (k : Below b.heap.size b c) : Below a.heap.size a c := h.trans (k.mono h.size)
theorem cell_lt {w : World} {b o : Nat} {v : Value} (h : w.cell? ⟨b, o, none⟩ = some v) : b < w.heap.size := by
  simp only [World.cell?] at h
  rcases Nat.lt_or_ge b w.heap.size with k | k
  · exact k
  · exfalso
    rw [Array.getElem?_eq_none k] at h
    simp at h

/-- Two words of a complex number. -/
abbrev Wz := Nat × Nat
def cx (z : Wz) : Value := .complex .f64 z.1 z.2
def ltZ (z : Wz) : Prop := z.1 < 2 ^ 64 ∧ z.2 < 2 ^ 64
def feW (x y : Wz) : Bool := Op.floatEq .f64 x.1 y.1 && Op.floatEq .f64 x.2 y.2

/-- Any two complex numbers held against one another. -/
theorem eq_cx (x y : Wz) (w : World) : (Op.equalIn 9999 29 (.complex .f64 x.1 x.2) (.complex .f64 y.1 y.2)).run Try.prog w = .ok (feW x y) w := by
  rw [show (9999 : Nat) = 9998 + 1 from rfl]
  unfold Op.equalIn feW
  simp [run_underlying (show Try.prog.underlying 29 = some (.complex .f64) by kernel_rfl)]

/-- What a slice of complex numbers reads. -/
structure Zr (w : World) (ao : Option Addr) (zs : List Wz) : Prop where
  lt : ∀ z ∈ zs, ltZ z
  pl : zs ≠ [] → ∃ b off, ao = some ⟨b, off, none⟩ ∧ ∀ t, t < zs.length → w.cell? ⟨b, off + t, none⟩ = some (.complex .f64 (zs.getD t (0, 0)).1 (zs.getD t (0, 0)).2)

theorem Zr.nil (w : World) (ao : Option Addr) : Zr w ao [] := ⟨by simp, fun h => absurd rfl h⟩
theorem Zr.up {w w' : World} {ao : Option Addr} {zs : List Wz} (h : Zr w ao zs) (hb : Below w.heap.size w w') : Zr w' ao zs := by
  refine ⟨h.lt, fun hn => ?_⟩
  obtain ⟨b, off, e, hc⟩ := h.pl hn
  exact ⟨b, off, e, fun t ht => (hb.cell (cell_lt (hc t ht))).trans (hc t ht)⟩
theorem Zr.alloc {w : World} {ao : Option Addr} {zs : List Wz} (h : Zr w ao zs) (o : Obj) : Zr (w.alloc o) ao zs := h.up (below_alloc w o)
theorem Zr.get_lt {w : World} {ao : Option Addr} {zs : List Wz} (h : Zr w ao zs) {t : Nat} (ht : t < zs.length) : ltZ (zs.getD t (0, 0)) := by
  rw [List.getD_eq_getElem?_getD, List.getElem?_eq_getElem ht]
  exact h.lt _ (List.getElem_mem ht)

/-- A value as it may be: its fields. -/
structure Rv where
  t : Int
  z : Wz
  r : Bool
  zs : List Wz
deriving DecidableEq

def vV (ao : Option Addr) (cap : Nat) (v : Rv) : Value := .agg #[.int .i64 v.t, .complex .f64 v.z.1 v.z.2, .bool v.r, .slice ao v.zs.length cap]

/-- Nought, and no other nought. -/
def zeroV (z : Wz) : Bool := feW z (0, 0) && vc z.1 z.2
def allV (zs : List Wz) : Bool := zs.all fun z => vc z.1 z.2
def soundV (v : Rv) : Bool :=
  if v.t = 1 then vc v.z.1 v.z.2 && !v.r && v.zs.isEmpty
  else if v.t = 2 then zeroV v.z && v.zs.isEmpty
  else if v.t = 3 then zeroV v.z && !v.r && allV v.zs
  else false

set_option maxHeartbeats 400000 in
theorem zero_any (z : Wz) (w : World) (hz : ltZ z) :
    Calls Try.prog 58 #[.complex .f64 z.1 z.2] w fun e w' => e = .returned (.bool (zeroV z)) ∧ w' = w := by
  obtain ⟨z1, z2⟩ := hz
  go_enter Try.func58, Try.ntmps58
  go_wp2_with (go_at_call 21; refine (valid_any _ _ _ z1 z2).mono ?_; rintro e w' ⟨rfl, rfl⟩)
  all_goals
    go_ret
    refine ⟨ret_bool ?_, rfl⟩
    unfold zeroV vc feW Op.floatEq
    simp_all

theorem allV_take {zs : List Wz} {k : Nat} (hk : k < zs.length) : allV (zs.take (k + 1)) = (allV (zs.take k) && vc (zs.getD k (0, 0)).1 (zs.getD k (0, 0)).2) := by
  unfold allV
  rw [List.take_succ_eq_append_getElem hk, List.all_append, List.getD_eq_getElem?_getD, List.getElem?_eq_getElem hk]
  simp

theorem allV_no {zs : List Wz} {k : Nat} (hk : k < zs.length) (h : vc (zs.getD k (0, 0)).1 (zs.getD k (0, 0)).2 = false) : allV zs = false := by
  unfold allV
  rw [List.all_eq_false]
  refine ⟨zs[k], List.getElem_mem hk, ?_⟩
  rw [List.getD_eq_getElem?_getD, List.getElem?_eq_getElem hk] at h
  simpa using h

set_option maxHeartbeats 2000000 in
theorem allNumbers_any (ao : Option Addr) (cap : Nat) (zs : List Wz) (w : World) (h : Zr w ao zs) (hl : zs.length ≤ 5864062014806) :
    Calls Try.prog 59 #[.slice ao zs.length cap] w fun e w' => e = .returned (.bool (allV zs)) ∧ w' = w := by
  obtain ⟨n, hn⟩ : ∃ n, Hid (n = zs.length) := ⟨_, rfl⟩
  rw [← hn.out] at hl ⊢
  obtain ⟨N, hN⟩ : ∃ N, Hid (N = allV zs) := ⟨_, rfl⟩
  rw [← hN.out]
  go_enter Try.func59, Try.ntmps59
  go_wp2
  go_loop [7] (fun i => ∃ k : Nat, k ≤ n ∧ i = .int .i64 k ∧ Hid (allV (zs.take k) = true)) (fun i => n - (intOf i).toNat)
  case atStart => exact ⟨0, Nat.zero_le _, rfl, rfl⟩
  case round =>
    obtain ⟨k, hkn, rfl, ha⟩ := hrel
    by_cases hlt : k < n
    · have hk : k < zs.length := by rw [← hn.out]; exact hlt
      obtain ⟨b, off, rfl, hc⟩ := h.pl (by intro e; rw [e] at hk; simp at hk)
      have hck := hc k hk
      have hgl := h.get_lt hk
      have hT := allV_take hk
      have hF := @allV_no zs k hk
      obtain ⟨z, hzd⟩ : ∃ z, z = zs.getD k (0, 0) := ⟨_, rfl⟩
      rw [← hzd] at hck hgl hT hF
      obtain ⟨x, y⟩ := z
      obtain ⟨g1, g2⟩ := hgl
      have hv := fun W => valid_any x y W g1 g2
      cases hg : vc x y with
      | true =>
        have hA : Hid (allV (zs.take (k + 1)) = true) := by show _ = _; rw [hT, ha.out, hg]; rfl
        have hg' : (vp x && vp y) = true := hg
        rw [hg'] at hv
        clear h hc hg hg' hT hF hzd g1 g2 ha
        go_wp2_with (go_at_call 21; refine (hv _).mono ?_; rintro e w' ⟨rfl, rfl⟩)
        go_round
        case rel => exact ⟨k + 1, by omega, by go_num, hA⟩
        case measure => simp [intOf]; omega
      | false =>
        have hA := hF hg
        have hg' : (vp x && vp y) = false := hg
        rw [hg'] at hv
        rw [← hN.out] at hA
        subst hA
        clear h hc hg hg' ha hT hF hzd g1 g2
        go_wp2_with (go_at_call 21; refine (hv _).mono ?_; rintro e w' ⟨rfl, rfl⟩)
        go_ret
        exact ⟨rfl, rfl⟩
    · have hA : allV zs = true := by
        rw [← ha.out, List.take_of_length_le]
        rw [← hn.out]; omega
      rw [← hN.out] at hA
      subst hA
      have hke : k = n := by omega
      subst hke
      go_wp2
      go_ret
      exact ⟨rfl, rfl⟩

theorem isEmpty_dec (zs : List Wz) : zs.isEmpty = ((zs.length : Int) == 0) := by cases zs <;> simp; omega

set_option maxHeartbeats 1000000 in
theorem sound_any (v : Rv) (ao : Option Addr) (cap : Nat) (w : World) (hz : ltZ v.z) (h : Zr w ao v.zs) (hl : v.zs.length ≤ 5864062014806) :
    Calls Try.prog 54 #[vV ao cap v] w fun e w' => e = .returned (.bool (soundV v)) ∧ Below w.heap.size w w' := by
  obtain ⟨z1, z2⟩ := hz
  have hv := fun W => valid_any _ _ W z1 z2
  have hzz := fun W => zero_any v.z W ⟨z1, z2⟩
  have hall := fun o => allNumbers_any ao cap v.zs (w.alloc o) (h.alloc o) hl
  unfold soundV vV
  rw [isEmpty_dec]
  obtain ⟨t, ⟨x, y⟩, r, zs⟩ := v
  have H : Hid (zs.length ≤ 5864062014806) := hl
  clear hl h z1 z2
  simp only at *
  go_enter Try.func54, Try.ntmps54
  go_wp2_with (first | (go_at_call 21; refine (hv _).mono ?_; rintro e w' ⟨rfl, rfl⟩) | (go_at_call 58; refine (hzz _).mono ?_; rintro e w' ⟨rfl, rfl⟩) | (go_at_call 59; refine (hall _).mono ?_; rintro e w' ⟨rfl, rfl⟩))
  all_goals
    go_ret
    refine ⟨ret_bool ?_, below_alloc _ _⟩
    simp_all [vc]
end Go.Proofs.Ytebpjcjoapahnaa
