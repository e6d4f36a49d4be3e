/-
  Rows of values that an operation is handed; the walk of fits.
-/
import Derived.Test.YtebpjcjoapahnaaPb
namespace Go.Proofs.Ytebpjcjoapahnaa
open Go.RowKit
set_option maxRecDepth 100000

/-- A value in a row of arguments: where its list lies, its room, its fields. -/
abbrev Ai := Option Addr × Nat × Rv
def ai0 : Ai := (none, 0, rv0)
structure Ar (w : World) (ao : Option Addr) (l : List Ai) : Prop where
  pl : l ≠ [] → ∃ b off, ao = some ⟨b, off, none⟩ ∧ ∀ t, t < l.length → V4 w b (off + t * 4) (l.getD t ai0).1 (l.getD t ai0).2.1 (l.getD t ai0).2.2
  vr : ∀ i ∈ l, Vr w i.1 i.2.2
theorem Ar.up {w w' : World} {ao : Option Addr} {l : List Ai} (h : Ar w ao l) (hb : Below w.heap.size w w') : Ar w' ao l := by
  refine ⟨fun hn => ?_, fun i hi => (h.vr i hi).up hb⟩
  obtain ⟨b, off, e, hc⟩ := h.pl hn
  exact ⟨b, off, e, fun t ht => (hc t ht).up hb⟩
theorem Ar.alloc {w : World} {ao : Option Addr} {l : List Ai} (h : Ar w ao l) (o : Obj) : Ar (w.alloc o) ao l := h.up (below_alloc _ _)
theorem getD_mem {α : Type} {l : List α} {t : Nat} {d : α} (h : t < l.length) : l.getD t d ∈ l := by
  rw [List.getD_eq_getElem?_getD, List.getElem?_eq_getElem h]
  exact List.getElem_mem h

/-- An operation fits values. -/
def oneB (K : Int) (v : Rv) : Bool := decide (v.t = K) && soundV v
def fitB (op : Int) (vs : List Rv) : Bool := (decide (tkN op ≠ 0) && decide ((vs.length : Int) = tkN op)) && vs.all (oneB (tkT op))

theorem all_upto {vs : List Rv} {K : Int} {k : Nat} (h : (vs.take k).all (oneB K) = true) (hk : k < vs.length) (h1 : oneB K (vs.getD k rv0) = true) : (vs.take (k + 1)).all (oneB K) = true := by
  rw [List.take_succ_eq_append_getElem hk, List.all_append, h]
  rw [List.getD_eq_getElem?_getD, List.getElem?_eq_getElem hk] at h1
  simpa using h1
theorem all_not {vs : List Rv} {K : Int} {k : Nat} (hk : k < vs.length) (h1 : oneB K (vs.getD k rv0) = false) : vs.all (oneB K) = false := by
  rw [List.all_eq_false]
  exact ⟨vs.getD k rv0, getD_mem hk, by rw [h1]; decide⟩
theorem map_getD (l : List Ai) (k : Nat) (hk : k < l.length) : (l.map (·.2.2)).getD k rv0 = (l.getD k ai0).2.2 := by
  rw [List.getD_eq_getElem?_getD, List.getD_eq_getElem?_getD, List.getElem?_eq_getElem hk, List.getElem?_map, List.getElem?_eq_getElem hk]; rfl

set_option maxHeartbeats 2000000 in
theorem fits_any (op : Int) (ao : Option Addr) (cap : Nat) (l : List Ai) (w : World) (h : Ar w ao l) (hl : l.length < 4611686018427387904) :
    Calls Try.prog 28 #[.int .i64 op, .slice ao l.length cap] w fun e w' => e = .returned (.bool (fitB op (l.map (·.2.2)))) ∧ Below w.heap.size w w' := by
  have ht := fun W => takes_any op W
  obtain ⟨n, hn⟩ : ∃ n, Hid (n = l.length) := ⟨_, rfl⟩
  obtain ⟨A, hA⟩ : ∃ A, Hid (A = (l.map (·.2.2)).all (oneB (tkT op))) := ⟨_, rfl⟩
  have hF : fitB op (l.map (·.2.2)) = ((decide (tkN op ≠ 0) && decide ((n : Int) = tkN op)) && A) := by
    unfold fitB
    rw [hA.out, hn.out, List.length_map]
  rw [hF, ← hn.out]
  rw [← hn.out] at hl
  clear hF
  generalize tkN op = N at *
  generalize hK : tkT op = K at *
  clear hK
  by_cases hN : N = 0
  · subst hN
    rw [show ((decide ((0 : Int) ≠ 0) && decide ((n : Int) = 0)) && A) = false by simp]
    clear h hA hn
    go_enter Try.func28, Try.ntmps28
    go_wp2_with (go_at_call 9; refine (ht _).mono ?_; rintro e w' ⟨rfl, hw'⟩; rw [hw']; clear hw')
    all_goals
      go_ret
      exact ⟨rfl, Below.refl _ _⟩
  · have hN0 : (N == 0) = false := by rw [beq_eq_false_iff_ne]; exact hN
    by_cases hnN : (n : Int) = N
    · rw [show ((decide (N ≠ 0) && decide ((n : Int) = N)) && A) = A by simp [hN, hnN]]
      have hnN' : ((n : Int) != N) = false := by rw [bne_eq_false_iff_eq]; exact hnN
      have H : Hid (Ar w ao l) := h
      clear hN hnN h
      have hcx := store_cx
      go_enter Try.func28, Try.ntmps28
      go_wp2_with (go_at_call 9; refine (ht _).mono ?_; rintro e w' ⟨rfl, hw'⟩; rw [hw']; clear hw')
      clear ht
      go_loopw [24] (fun i wr => ∃ k : Nat, k ≤ n ∧ i = .int .i64 k ∧ Below w.heap.size w wr ∧ Hid (((l.map (·.2.2)).take k).all (oneB K) = true)) (fun i _ => n - (intOf i).toNat)
      case atStart => exact ⟨0, Nat.zero_le _, rfl, Below.refl _ _, rfl⟩
      case round =>
        obtain ⟨k, hkn, rfl, hB, ha⟩ := hrel
        by_cases hlt : k < n
        · have hk : k < l.length := by rw [← hn.out]; exact hlt
          obtain ⟨b, off, rfl, hv⟩ := (H.out.up hB).pl (by intro e; rw [e] at hk; simp at hk)
          have v4 := hv k hk
          have vr := (H.out.up hB).vr _ (getD_mem (d := ai0) hk)
          have hm := map_getD l k hk
          have hk2 : k < (l.map (·.2.2)).length := by rw [List.length_map]; exact hk
          have hup : Hid (oneB K (l.getD k ai0).2.2 = true → ((l.map (·.2.2)).take (k + 1)).all (oneB K) = true) := fun h1 => all_upto ha.out hk2 (by rw [hm]; exact h1)
          have hno : Hid (oneB K (l.getD k ai0).2.2 = false → A = false) := fun h1 => by rw [hA.out]; exact all_not hk2 (by rw [hm]; exact h1)
          generalize l.getD k ai0 = i at *
          obtain ⟨ai, ci, v⟩ := i
          simp only at *
          obtain ⟨c0, c1, c2, c3⟩ := v4
          have hck := fun W (hW : Below wr.heap.size wr W) => check_any v ai ci W vr.z (vr.up hW).l vr.n
          clear hv hm hk2 hk ha
          by_cases hT : v.t = K
          · cases hS : soundV v with
            | true =>
              have h3 := hup.out (by unfold oneB; rw [hT, hS]; simp)
              have H3 : Hid (((l.map (·.2.2)).take (k + 1)).all (oneB K) = true) := h3
              rw [hS] at hck
              clear hup hno h3 hS
              subst hT
              go_wp2_with (go_at_call 46; refine (hck _ (below_alloc _ _)).mono ?_; rintro e w1 ⟨rfl, hb1⟩)
              go_roundw
              case rel => exact ⟨k + 1, by omega, by go_num, Below.thn hB (Below.thn (below_alloc _ _) hb1), H3⟩
              case measure => simp [intOf]; omega
            | false =>
              have h3 := hno.out (by unfold oneB; rw [hT, hS]; simp)
              rw [hS] at hck
              clear hup hno hS hA
              subst hT h3
              go_wp2_with (go_at_call 46; refine (hck _ (below_alloc _ _)).mono ?_; rintro e w1 ⟨rfl, hb1⟩)
              go_ret
              exact ⟨rfl, Below.thn hB (Below.thn (below_alloc _ _) hb1)⟩
          · have h3 := hno.out (by unfold oneB; simp [hT])
            have hT' : (v.t == K) = false := by rw [beq_eq_false_iff_ne]; exact hT
            clear hup hno hA hT hck
            subst h3
            go_wp2
            go_ret
            exact ⟨rfl, Below.thn hB (below_alloc _ _)⟩
        · have hke : k = n := by omega
          have h3 : A = true := by
            rw [hA.out, ← ha.out, List.take_of_length_le]
            rw [List.length_map, ← hn.out]; omega
          clear hA ha
          subst hke h3
          go_wp2
          go_ret
          exact ⟨rfl, hB⟩
    · rw [show ((decide (N ≠ 0) && decide ((n : Int) = N)) && A) = false by simp [hnN]]
      have hnN' : ((n : Int) != N) = true := by rw [bne_iff_ne]; exact hnN
      clear h hA hn hN hnN
      go_enter Try.func28, Try.ntmps28
      go_wp2_with (go_at_call 9; refine (ht _).mono ?_; rintro e w' ⟨rfl, hw'⟩; rw [hw']; clear hw')
      all_goals
        go_ret
        exact ⟨rfl, Below.refl _ _⟩
end Go.Proofs.Ytebpjcjoapahnaa
