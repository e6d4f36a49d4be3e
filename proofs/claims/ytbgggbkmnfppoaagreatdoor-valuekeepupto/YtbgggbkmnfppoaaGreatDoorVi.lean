/-
  The walks of boolText, listText, Text.
-/
import Derived.Test.YtbgggbkmnfppoaaGreatDoorVh
namespace Go.Proofs.YtbgggbkmnfppoaaGreatDoor
open Go.RowKit
open Go.Lib
set_option maxRecDepth 100000

theorem jnT_snoc (x : List UInt8) : ∀ {xs : List (List UInt8)}, xs ≠ [] → jnT (xs ++ [x]) = jnT xs ++ 32 :: x := by
  intro xs
  induction xs with
  | nil => intro h; exact absurd rfl h
  | cons a r ih =>
    intro _
    cases r with
    | nil => rfl
    | cons b t =>
      rw [List.cons_append, jnT_cons a (by simp), ih (by simp), jnT_cons a (by simp)]
      simp

theorem inner_take {ys : List Zn} {k : Nat} (hk : k < ys.length) : inner (ys.take (k + 1)) = inner (ys.take k) ++ ((if k = 0 then [] else [32]) ++ txZ (ys.getD k (0, 0))) := by
  unfold inner
  rw [List.take_succ_eq_append_getElem hk, List.map_append, List.getD_eq_getElem?_getD, List.getElem?_eq_getElem hk]
  simp only [List.map_cons, List.map_nil, Option.getD_some]
  by_cases h : k = 0
  · subst h; simp [jnT]
  · rw [if_neg h, jnT_snoc]
    · rfl
    · intro e
      rw [List.map_eq_nil_iff, List.take_eq_nil_iff] at e
      rcases e with e | e
      · exact h e
      · rw [e] at hk; simp at hk

theorem getD_map (ys : List Zn) {k : Nat} (hk : k < ys.length) : (ys.map wz).getD k (0, 0) = wz (ys.getD k (0, 0)) := by
  rw [List.getD_eq_getElem?_getD, List.getD_eq_getElem?_getD, List.getElem?_map, List.getElem?_eq_getElem hk]
  rfl
theorem getD_ok {ys : List Zn} (h : ∀ y ∈ ys, okZ y) {k : Nat} (hk : k < ys.length) : okZ (ys.getD k (0, 0)) := by
  rw [List.getD_eq_getElem?_getD, List.getElem?_eq_getElem hk]
  exact h _ (List.getElem_mem hk)

theorem inner_len : ∀ {ys : List Zn}, (∀ y ∈ ys, okZ y) → (inner ys).length ≤ 20 * ys.length := by
  intro ys
  induction ys with
  | nil => intro _; simp [inner, jnT]
  | cons y r ih =>
    intro h
    have h1 : (txZ y).length ≤ 19 := by
      have hy := h y (by simp)
      have h1 := itoa_len hy.1
      have h2 := itoa_len hy.2
      unfold txZ txt
      split
      · omega
      · split
        · simp; omega
        · split
          · rename_i h3
            have : (itoa y.2).length ≤ 8 := by
              unfold itoa
              rw [if_neg (by omega)]
              have := itoa_len (n := -(y.2)) (by have := hy.2; omega)
              unfold itoa at this
              rw [if_pos (by omega)] at this
              have e : (-(y.2)).natAbs = y.2.toNat := by omega
              rw [e] at this
              simp at this
              omega
            simp; omega
          · simp; omega
    have h2 := ih (fun z hz => h z (by simp [hz]))
    unfold inner at h2 ⊢
    cases r with
    | nil => simp [jnT]; omega
    | cons z t =>
      rw [List.map_cons, jnT_cons _ (by simp)]
      simp only [List.length_append, List.length_cons] at h2 ⊢
      omega

theorem boolText_any (r : Bool) (w : World) :
    Calls Tryz.prog 24 #[.bool r] w fun e w' => e = .returned (.string (bs (if r then tTrue else tFalse))) ∧ w' = w := by
  cases r
  all_goals
    go_enter Tryz.func24, Tryz.ntmps24
    go_wp2
    go_ret
    exact ⟨rfl, rfl⟩

theorem Wr5.low {B b : Nat} {l : List UInt8} {w : World} (h : Wr5 B b l w) (hB : b = B) : B ≤ w.heap.size := by
  have := h.lt
  omega

set_option maxHeartbeats 1000000 in
theorem listText_any (ys : List Zn) (hok : ∀ y ∈ ys, okZ y) (ao : Option Addr) (cap : Nat) (w : World) (hT : Tab w) (h : Zr w ao (ys.map wz)) (hl : ys.length ≤ 5864062014806) :
    Calls Tryz.prog 25 #[.slice ao ys.length cap] w fun e w' => e = .returned (.string (bs (txV (.l ys)))) ∧ Below w.heap.size w w' := by
  obtain ⟨n, hn⟩ : ∃ n, Hid (n = ys.length) := ⟨_, rfl⟩
  rw [← hn.out] at hl ⊢
  obtain ⟨T, hTx⟩ : ∃ T, Hid (T = bs (txV (.l ys))) := ⟨_, rfl⟩
  rw [← hTx.out]
  have hW0 := Wr5.new w
  have hB0 := below_alloc w (.cells #[.pointer none, .slice none 0 0] 89)
  have hI := fun k => inner_len (ys := ys.take k) (fun y hy => hok y (List.mem_of_mem_take hy))
  have hwr := writeString_w hW0 [91] (by simp) (by simp)
  rw [show bs [91] = ⟨#[91]⟩ from rfl] at hwr
  go_enter Tryz.func25, Tryz.ntmps25
  go_wp2_with fail
  refine hwr.mono ?_
  rintro e w1 ⟨rfl, hW1, hK1⟩
  have hB1 : Below w.heap.size w w1 := hB0.trans hK1.low
  clear hwr hW0 hB0 hK1
  go_wp2_with fail
  go_loopw [11] (fun i wr => ∃ k : Nat, k ≤ n ∧ i = .int .i64 k ∧ Below w.heap.size w wr ∧ Hid (Wr5 w.heap.size w.heap.size (91 :: inner (ys.take k)) wr)) (fun i _ => n - (RowKit.intOf i).toNat)
  case atStart => exact ⟨0, Nat.zero_le _, rfl, hB1, hW1⟩
  case round =>
    obtain ⟨k, hkn, rfl, hB, hW⟩ := hrel
    clear hW1 hB1
    have hlk : (inner (ys.take k)).length ≤ 20 * k := by
      have := hI k
      rw [List.length_take] at this
      omega
    by_cases hlt : k < n
    · have hk : k < ys.length := by rw [← hn.out]; exact hlt
      obtain ⟨b, off, rfl, hc⟩ := (h.up hB).pl (by intro e; have := congrArg List.length e; simp at this; rw [this] at hk; simp at hk)
      have hck := hc k (by simpa using hk)
      have hsn := inner_take hk
      have hlk1 : (inner (ys.take (k + 1))).length ≤ 20 * (k + 1) := by
        have := hI (k + 1)
        rw [List.length_take] at this
        omega
      have hgo := getD_ok hok hk
      rw [getD_map ys hk] at hck
      obtain ⟨y, hy⟩ : ∃ y, y = ys.getD k (0, 0) := ⟨_, rfl⟩
      rw [← hy] at hsn hck hgo
      obtain ⟨p, q⟩ := y
      unfold wz at hck
      simp only at hck
      have ht := fun W (hT : Tab W) => text_w p q W hT hgo.1 hgo.2
      have HS : Hid (inner (ys.take (k + 1)) = inner (ys.take k) ++ ((if k = 0 then [] else [32]) ++ txt p q)) := hsn
      generalize fl p = fp at *
      generalize fl q = fq at *
      clear hc hsn hgo hy hk h hI
      by_cases h0 : k = 0
      · subst h0
        simp only [Nat.add_zero] at hck
        go_wp2_with fail
        refine (ht _ (tab_keep hT hB)).mono ?_
        rintro e w2 ⟨rfl, hb2⟩
        have hW2 := hW.out.up hb2
        have hwr := writeString_w hW2 (txt p q) (by rw [HS.out] at hlk1; simp at hlk1 ⊢; omega) (hW2.low rfl)
        go_wp2_with fail
        refine hwr.mono ?_
        rintro e w3 ⟨rfl, hW3, hK3⟩
        go_wp2_with fail
        go_roundw
        case rel =>
          refine ⟨1, by omega, by go_num, (Below.thn hB hb2).trans hK3.low, ?_⟩
          show Wr5 _ _ _ _
          rw [show (1 : Nat) = 0 + 1 from rfl, HS.out, if_pos trivial]
          exact hW3
        case measure => simp [RowKit.intOf]; omega
      · have hwb := writeString_w hW.out [32] (by simp; omega) (hW.out.low rfl)
        rw [show bs [32] = ⟨#[32]⟩ from rfl] at hwb
        have h0' : (0 : Int) < (k : Int) := by omega
        go_wp2_with fail
        refine hwb.mono ?_
        rintro e w2 ⟨rfl, hW2, hK2⟩
        have hB2 := hB.trans hK2.low
        go_wp2_with fail
        refine (ht _ (tab_keep hT hB2)).mono ?_
        rintro e w3 ⟨rfl, hb3⟩
        have hW3 := hW2.up hb3
        have hwr := writeString_w hW3 (txt p q) (by rw [HS.out, if_neg h0] at hlk1; simp at hlk1 ⊢; omega) (hW3.low rfl)
        go_wp2_with fail
        refine hwr.mono ?_
        rintro e w4 ⟨rfl, hW4, hK4⟩
        go_wp2_with fail
        go_roundw
        case rel =>
          refine ⟨k + 1, by omega, by go_num, (Below.thn hB2 hb3).trans hK4.low, ?_⟩
          show Wr5 _ _ _ _
          rw [HS.out, if_neg h0]
          rw [List.append_assoc] at hW4
          exact hW4
        case measure => simp [RowKit.intOf]; omega
    · have hke : k = n := by omega
      have htk : ys.take k = ys := List.take_of_length_le (by rw [← hn.out]; omega)
      rw [htk] at hlk
      have hW' := hW.out
      rw [htk] at hW'
      have hwr := writeString_w hW' [93] (by simp; omega) (hW'.low rfl)
      rw [show bs [93] = ⟨#[93]⟩ from rfl] at hwr
      clear htk hI hW
      subst hke
      go_wp2_with fail
      refine hwr.mono ?_
      rintro e w2 ⟨rfl, hW2, hK2⟩
      have hst := builderString_w hW2 (by simp)
      rw [show (91 :: inner ys) ++ [93] = txV (.l ys) by simp [txV], ← hTx.out] at hst
      go_wp2_with fail
      refine hst.mono ?_
      rintro e w3 ⟨rfl, hb3⟩
      go_wp2
      go_ret
      exact ⟨rfl, (hB.trans hK2.low).trans hb3⟩

/-- What Text answers. -/
def txR (v : Rv) (e : Ending) : Prop := ∃ s k, e = .returned (.tuple #[.string (bs s), .int .i64 k]) ∧ ((soundV v = false ∧ s = [] ∧ k = 3) ∨ ∃ u, okV u ∧ v = ofV u ∧ s = txV u ∧ k = 0)

theorem txR_yes {v : Rv} {u : Vl} (hu : okV u) (h : v = ofV u) {e : Ending} (he : e = .returned (.tuple #[.string (bs (txV u)), .int .i64 0])) : txR v e := ⟨_, _, he, .inr ⟨u, hu, h, rfl, rfl⟩⟩
theorem txR_no {v : Rv} (h : soundV v = false) {e : Ending} (he : e = .returned (.tuple #[.string ⟨#[]⟩, .int .i64 3])) : txR v e := ⟨[], 3, he, .inl ⟨h, rfl, rfl⟩⟩

set_option maxHeartbeats 1000000 in
theorem text_any (v : Rv) (ao : Option Addr) (cap : Nat) (w : World) (hT : Tab w) (h : Vr w ao v) :
    Calls Tryz.prog 9 #[vV ao cap v] w fun e w' => txR v e ∧ Below w.heap.size w w' := by
  have m := V4.new w ao cap v
  have k := h.alloc (vObj ao cap v)
  have b0 := below_alloc w (vObj ao cap v)
  have s1 := sound_any v ao cap _ k.z k.l k.n
  cases hs : soundV v with
  | false =>
    have KEY : Hid (∀ e, e = .returned (.tuple #[.string ⟨#[]⟩, .int .i64 3]) → txR v e) := fun e he => txR_no hs he
    rw [hs] at s1
    generalize txR v = Q at *
    unfold vV vObj at *
    clear h m k hs
    go_enter Tryz.func9, Tryz.ntmps9
    go_wp2_with fail
    refine s1.mono ?_
    rintro e w1 ⟨rfl, hb1⟩
    go_wp2
    go_ret2
    exact ⟨KEY.out _ rfl, Below.thn b0 hb1⟩
  | true =>
    rw [hs] at s1
    obtain ⟨u, hu, e0⟩ := sound_is hs
    have KEY : Hid (∀ e, e = .returned (.tuple #[.string (bs (txV u)), .int .i64 0]) → txR v e) := fun e he => txR_yes hu e0 he
    generalize txR v = Q at *
    subst e0
    unfold vV vObj at *
    clear hs h
    go_enter Tryz.func9, Tryz.ntmps9
    go_wp2_with fail
    refine s1.mono ?_
    rintro e w1 ⟨rfl, hb1⟩
    replace b0 := Below.thn b0 hb1
    obtain ⟨d1, d2, d3, d4⟩ := m.up hb1
    simp only [Nat.zero_add] at d2 d3 d4
    replace k := k.up hb1
    have hT1 := tab_keep hT b0
    clear s1 hb1 m hT
    cases u with
    | n z =>
      have ht := text_w z.1 z.2 w1 hT1 hu.1 hu.2
      simp only [ofV, wz] at d1 d2 d3 d4
      generalize fl z.1 = fp at *
      generalize fl z.2 = fq at *
      go_wp2_with fail
      refine ht.mono ?_
      rintro e w2 ⟨rfl, hb2⟩
      go_wp2
      go_ret2
      exact ⟨KEY.out _ rfl, Below.thn b0 hb2⟩
    | b r =>
      have ht := boolText_any r w1
      simp only [ofV] at d1 d2 d3 d4
      cases r
      all_goals
        go_wp2_with fail
        refine ht.mono ?_
        rintro e w2 ⟨rfl, hw2⟩
        rw [hw2]
        clear hw2
        go_wp2
        go_ret2
        exact ⟨KEY.out _ rfl, b0⟩
    | l zs =>
      have hl := k.n
      simp only [ofV, List.length_map] at hl
      have ht := listText_any zs hu ao cap w1 hT1 k.l hl
      simp only [ofV, List.length_map] at d1 d2 d3 d4
      go_wp2_with fail
      refine ht.mono ?_
      rintro e w2 ⟨rfl, hb2⟩
      go_wp2
      go_ret2
      exact ⟨KEY.out _ rfl, Below.thn b0 hb2⟩
end Go.Proofs.YtbgggbkmnfppoaaGreatDoor
