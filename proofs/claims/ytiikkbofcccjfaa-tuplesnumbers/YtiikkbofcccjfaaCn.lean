/-
  The walk of Count.
-/
import Derived.Test.YtiikkbofcccjfaaOn
import Derived.Test.YtiikkbofcccjfaaPt
namespace Go.Proofs.Ytiikkbofcccjfaa
open Go.RowKit
open RowsM

/-- How many cells of the words hold v. -/
def countL (zs : List Nat) (v : Nat) : Nat := (zs.map fun x => cnt x v).sum
def countV (n : Int) (zs : List Nat) (v : Int) : Int := if okR n zs && okV v then (countL zs v.toNat : Int) - (if v = 0 then 32 * (zs.length : Int) - n else 0) else 0
def countE (n : Int) (zs : List Nat) (v : Int) : Int := if okR n zs then if okV v then 0 else 2 else 3

theorem countL_take (zs : List Nat) (v k : Nat) (hk : k < zs.length) : countL (zs.take (k + 1)) v = countL (zs.take k) v + cnt (zs.getD k 0) v := by
  unfold countL
  rw [List.take_succ_eq_append_getElem hk, List.map_append, List.sum_append]
  simp [List.getD_eq_getElem?_getD, hk]

theorem countL_le (zs : List Nat) (v : Nat) : countL zs v ≤ 32 * zs.length := by
  induction zs with
  | nil => simp [countL]
  | cons z zs ih =>
    have := cnt_le z v
    unfold countL at *
    simp only [List.map_cons, List.sum_cons, List.length_cons]
    omega

theorem countL_all (zs : List Nat) : countL zs 0 + countL zs 1 + countL zs 2 + countL zs 3 = 32 * zs.length := by
  induction zs with
  | nil => simp [countL]
  | cons z zs ih =>
    have := cnt_all z
    unfold countL at *
    simp only [List.map_cons, List.sum_cons, List.length_cons]
    omega

set_option maxHeartbeats 1000000 in
theorem count_any (n : Int) (ao : Option Addr) (ca : Nat) (zs : List Nat) (v : Int) (w : World) (h : Rd w ao zs) (hl : zs.length ≤ 17592186043904) :
    Calls Try.prog 43 #[.agg #[.int .i64 n, .slice ao zs.length ca], .int .i64 v] w fun e w' => e = .returned (.tuple #[.int .i64 (countV n zs v), .int .i64 (countE n zs v)]) ∧ Below w.heap.size w w' := by
  have s1 := St.new w (.int .i64 n) (.slice ao zs.length ca)
  have b2 := below_alloc w (.cells #[.int .i64 n, .slice ao zs.length ca] 41)
  have h2 := h.up b2
  have hcp := check_any n ao ca zs _ h2 hl
  clear h
  cases hx : okR n zs with
  | false =>
    rw [hx] at hcp
    simp only [Bool.false_eq_true, if_false] at hcp
    have hv : countV n zs v = 0 := by unfold countV; rw [hx]; rfl
    have he : countE n zs v = 3 := by unfold countE; rw [hx]; rfl
    rw [hv, he]
    go_enter Try.func43, Try.ntmps43
    go_wp2_with fail
    refine hcp.mono ?_
    rintro e w1 ⟨rfl, hb1⟩
    have b3 := Below.thn b2 hb1
    clear s1 h2 hcp
    go_wp2
    go_ret2
    exact ⟨rfl, b3⟩
  | true =>
    rw [hx] at hcp
    simp only [if_true] at hcp
    have hic := isCell_any v
    cases hi : okV v with
    | false =>
      have hv : countV n zs v = 0 := by unfold countV; rw [hi, Bool.and_false]; rfl
      have he : countE n zs v = 2 := by unfold countE; rw [hx, hi]; rfl
      rw [hv, he]
      have hi2 : decide (0 ≤ v ∧ v ≤ 3) = false := hi
      rw [hi2] at hic
      go_enter Try.func43, Try.ntmps43
      go_wp2_with fail
      refine hcp.mono ?_
      rintro e w1 ⟨rfl, hb1⟩
      have b3 := Below.thn b2 hb1
      clear s1 h2 hcp hi2
      go_wp2_with (go_at_call 58; refine (hic _).mono ?_; rintro e w' ⟨rfl, rfl⟩)
      go_ret2
      exact ⟨rfl, b3⟩
    | true =>
      have hi2 : decide (0 ≤ v ∧ v ≤ 3) = true := hi
      rw [hi2] at hic
      obtain ⟨v0, v3⟩ : 0 ≤ v ∧ v ≤ 3 := by simpa using hi2
      have hn : 0 ≤ n ∧ n ≤ 4096 ∧ (zs.length : Int) = (n + 31) / 32 := by
        simp only [okR, decide_eq_true_eq] at hx; exact ⟨hx.1, hx.2.1, hx.2.2.1⟩
      obtain ⟨n0, n1, hln⟩ := hn
      have hll : zs.length ≤ 128 := by omega
      have HLn : Hid ((zs.length : Int) = (n + 31) / 32) := hln
      obtain ⟨r, hr⟩ : ∃ r : Int, r = countV n zs v := ⟨_, rfl⟩
      rw [← hr]
      have HR : Hid (r = countV n zs v) := hr
      have he : countE n zs v = 0 := by unfold countE; rw [hx, hi]; rfl
      rw [he]
      have hend : ∀ a : Int, a = countL zs v.toNat → (v = 0 → r = a - (32 * (zs.length : Int) - n)) ∧ (v ≠ 0 → r = a) := by
        intro a ha
        rw [show r = _ from HR]
        unfold countV
        rw [hx, hi, ha]
        refine ⟨fun h => ?_, fun h => ?_⟩
        · subst h; rfl
        · simp [h]
      have HE : Hid (∀ a : Int, a = countL zs v.toNat → (v = 0 → r = a - (32 * (zs.length : Int) - n)) ∧ (v ≠ 0 → r = a)) := hend
      have hv3 : v.toNat ≤ 3 := by omega
      clear hi2 hr he hln hend
      have hlk := fun (x : Nat) (hx : x < 18446744073709551616) (w : World) => like_any x v w hx v0 v3
      by_cases hz : zs = []
      · subst hz
        have hn' : n = 0 := by have := show ((([] : List Nat).length : Nat) : Int) = _ from HLn; simp at this; omega
        subst hn'
        obtain ⟨e1, e2⟩ := (show ∀ a : Int, _ from HE) 0 (by simp [countL])
        have hr0 : r = 0 := by
          by_cases hv : v = 0
          · rw [e1 hv]; simp
          · exact e2 hv
        rw [hr0]
        clear e1 e2 HE HR hr0 hlk h2
        rcases Decidable.em (v = 0) with rfl | hv
        all_goals
          go_enter Try.func43, Try.ntmps43
          go_wp2_with fail
          refine hcp.mono ?_
          rintro e w1 ⟨rfl, hb1⟩
          have b3 := Below.thn b2 hb1
          obtain ⟨c0, c1, _, _⟩ := (s1.up hb1).cells
          clear s1 hcp hb1 b2
          go_wp2_with (go_at_call 58; refine (hic _).mono ?_; rintro e w' ⟨rfl, rfl⟩)
          refine wp_loop_rounds 1 ?_
          rw [rounds_succ]
          go_wp2
          go_ret2
          exact ⟨rfl, b3⟩
      · go_enter Try.func43, Try.ntmps43
        go_wp2_with fail
        refine hcp.mono ?_
        rintro e w1 ⟨rfl, hb1⟩
        have b3 := Below.thn b2 hb1
        obtain ⟨c0, c1, _, _⟩ := (s1.up hb1).cells
        have h3 := h2.up hb1
        have hxl := h3.get_lt
        obtain ⟨b, off, rfl, hc⟩ := h3.pl hz
        clear s1 hcp hb1 b2 h2 h3
        go_wp2_with (go_at_call 58; refine (hic _).mono ?_; rintro e w' ⟨rfl, rfl⟩)
        go_loop [7, 21] (fun a i => ∃ k : Nat, k ≤ zs.length ∧ i = .int .i64 k ∧ ∃ c : Nat, c ≤ 4096 ∧ a = .int .i64 c ∧ Hid (c = countL (zs.take k) v.toNat)) (fun _ i => zs.length - (intOf i).toNat)
        case atStart => exact ⟨0, Nat.zero_le _, rfl, 0, by omega, rfl, by simp [Hid, countL]⟩
        case round =>
          obtain ⟨k, hk, rfl, c, hc4, rfl, HCk⟩ := hrel
          by_cases hlt : k < zs.length
          · obtain ⟨x, hxe⟩ : ∃ x, x = zs.getD k 0 := ⟨_, rfl⟩
            have ha := hc k hlt
            have hx0 := hxl k
            rw [← hxe] at ha hx0
            have HX : Hid (x = zs.getD k 0) := hxe
            obtain ⟨t, ht⟩ : ∃ t, t = cnt x v.toNat := ⟨_, rfl⟩
            have HT : Hid (t = cnt x v.toNat) := ht
            have htl : t ≤ 32 := by rw [ht]; exact cnt_le _ _
            have hon : ∀ w, Calls Try.prog 59 #[.int .u64 (likeN x v.toNat : Nat)] w fun e w' => e = .returned (.int .i64 (t : Nat)) ∧ w' = w := fun w => by
              have := ones_any (likeN x v.toNat) w (like_lt _ _)
              rw [ones_like hx0 hv3, ← ht] at this
              exact this
            have hlk1 := hlk x hx0
            clear hxe ht hc hxl hlk
            go_wp2_with (first
              | (go_at_call 60; refine (hlk1 _).mono ?_; rintro e w' ⟨rfl, rfl⟩)
              | (go_at_call 59; refine (hon _).mono ?_; rintro e w' ⟨rfl, rfl⟩))
            go_round
            case rel =>
              refine ⟨k + 1, by omega, by go_num, c + t, ?_, by go_num, ?_⟩
              · have hq := countL_take zs v.toNat k hlt
                have hq2 := countL_le (zs.take (k + 1)) v.toNat
                rw [← show x = _ from HX, ← show t = _ from HT, ← show c = _ from HCk] at hq
                rw [List.length_take] at hq2
                omega
              · show c + t = _
                rw [countL_take zs v.toNat k hlt, ← show x = _ from HX, ← show t = _ from HT, ← show c = _ from HCk]
            case measure => simp [intOf]; omega
          · have hke : k = zs.length := by omega
            subst hke
            clear hc hxl hlk
            rw [List.take_length] at HCk
            obtain ⟨e1, e2⟩ := (show ∀ a : Int, _ from HE) c (by rw [show c = _ from HCk])
            by_cases hv : v = 0
            · have e3 := e1 hv
              have HE3 : Hid (r = (c : Int) - (32 * (zs.length : Int) - n)) := e3
              clear e1 e2 e3 HE
              go_wp2
              go_ret2
              exact ⟨ret_ints HE3 rfl, b3⟩
            · have e3 := e2 hv
              have HE3 : Hid (r = (c : Int)) := e3
              clear e1 e2 e3 HE
              go_wp2
              go_ret2
              exact ⟨ret_ints HE3 rfl, b3⟩
end Go.Proofs.Ytiikkbofcccjfaa
