/-
  The walks of fathomref02.two and Below.
-/
import Derived.Test.YtmckdefemdcknaaRp
namespace Go.Proofs.Ytmckdefemdcknaa
open Go.RowKit
open RowsM

theorem Oi.up {w w' : World} {B : Nat} {v : Value} {cs : List Nat} (h : Oi w B v cs) (hb : Below w.heap.size w w') : Oi w' B v cs := by
  rcases h with ⟨h1, h2 | ⟨g, cap, cur, rfl, hB, hg, h3⟩⟩
  · exact ⟨h1, .inl h2⟩
  · refine ⟨h1, .inr ⟨g, cap, cur, rfl, hB, ?_, h3⟩⟩
    rw [hb.block g ?_]
    · exact hg
    · rcases Nat.lt_or_ge g w.heap.size with k | k
      · exact k
      · rw [Array.getElem?_eq_none k] at hg; cases hg

theorem Oi.low {w : World} {B : Nat} {v : Value} {cs : List Nat} (h : Oi w B v cs) : ∀ k, v.ownBlock = some k → k < w.heap.size := fun k hk => (World.ownsRow.lt h k hk).2

/-- How 'two' ends. -/
def TwoEnd (r : Bool) (cs ds : List Nat) (w : World) (e : Ending) (w' : World) : Prop :=
  ∃ v u B1 B2, e = .returned (.tuple #[v, u, .bool r]) ∧ (r = true → Oi w' B1 v cs ∧ Oi w' B2 u ds ∧ w.heap.size < B1 ∧ w.heap.size < B2 ∧ ∀ k, v.ownBlock = some k → k < B2) ∧ Below w.heap.size w w'

set_option maxHeartbeats 1000000 in
theorem two_any (n m : Int) (ao bo : Option Addr) (ca cb : Nat) (xs ys : List Nat) (w : World) (h : Rd w ao xs) (g : Rd w bo ys) (hl : xs.length ≤ 17592186043904) (gl : ys.length ≤ 17592186043904) :
    Calls Try.prog 40 #[.agg #[.int .i64 n, .slice ao xs.length ca], .agg #[.int .i64 m, .slice bo ys.length cb]] w fun e w' => TwoEnd (okP n m xs ys) (cellsL n xs) (cellsL m ys) w e w' := by
  obtain ⟨s1, s2⟩ := st_two w (.int .i64 n) (.slice ao xs.length ca) (.int .i64 m) (.slice bo ys.length cb)
  have b2 := below_two w (.cells #[.int .i64 n, .slice ao xs.length ca] 24) (.cells #[.int .i64 m, .slice bo ys.length cb] 24)
  have h2 := h.up b2
  have g2 := g.up b2
  clear h g
  have hsz := b2.size
  have hsz2 : w.heap.size < ((w.alloc (.cells #[.int .i64 n, .slice ao xs.length ca] 24)).alloc (.cells #[.int .i64 m, .slice bo ys.length cb] 24)).heap.size + 1 := by omega
  obtain ⟨c0, c1, _, _⟩ := s1.cells
  have hc1 := cells_any n ao ca xs _ h2 hl
  obtain ⟨r, hr⟩ : ∃ r, r = okP n m xs ys := ⟨_, rfl⟩
  rw [← hr]
  have HR : Hid (r = (okR n xs && okR m ys && (n == m))) := hr
  clear hr
  cases hx : okR n xs with
  | false =>
    rw [hx] at hc1 HR
    have hrf : r = false := by rw [show r = _ from HR]; rfl
    subst hrf
    go_enter Try.func40, Try.ntmps40
    go_wp2_with fail
    refine hc1.mono ?_
    rintro e w1 ⟨v, rfl, _, hv0, hb⟩
    have hv1 := hv0 rfl
    subst hv1
    have b3 := Below.thn b2 hb
    have g3 := g2.up hb
    obtain ⟨d0, d1, _, _⟩ := (s2.up hb).cells
    have hc2 := cells_any m bo cb ys _ g3 gl
    clear hc1 hb c0 c1 s1 s2 h2 g2 hv0
    go_wp2_with fail
    refine hc2.mono ?_
    rintro e w2 ⟨u, rfl, _, _, hb⟩
    have b4 := Below.thn b3 hb
    clear hc2 hb d0 d1 g3 HR
    go_wp2
    go_ret3
    exact ⟨_, _, 0, 0, rfl, fun h => (by cases h), b4⟩
  | true =>
    rw [hx] at hc1 HR
    have hn : 0 ≤ n ∧ n ≤ 4096 := by simp only [okR, decide_eq_true_eq] at hx; exact ⟨hx.1, hx.2.1⟩
    have hla := cellsL_len n xs
    have hlb := cellsL_len m ys
    go_enter Try.func40, Try.ntmps40
    go_wp2_with fail
    refine hc1.mono ?_
    rintro e w1 ⟨v, rfl, ho, _, hb⟩
    have hov := ho rfl
    have b3 := Below.thn b2 hb
    have g3 := g2.up hb
    obtain ⟨d0, d1, _, _⟩ := (s2.up hb).cells
    have hc2 := cells_any m bo cb ys _ g3 gl
    clear hc1 hb c0 c1 s1 s2 h2 g2 ho
    cases hy : okR m ys with
    | false =>
      rw [hy] at hc2 HR
      have hrf : r = false := by rw [show r = _ from HR]; rfl
      subst hrf
      go_wp2_with fail
      refine hc2.mono ?_
      rintro e w2 ⟨u, rfl, _, hu0, hb⟩
      have hu1 := hu0 rfl
      subst hu1
      have b4 := Below.thn b3 hb
      clear hc2 hb d0 d1 g3 HR hu0
      go_wp2
      go_ret3
      exact ⟨_, _, 0, 0, rfl, fun h => (by cases h), b4⟩
    | true =>
      rw [hy] at hc2 HR
      have hm : 0 ≤ m ∧ m ≤ 4096 := by simp only [okR, decide_eq_true_eq] at hy; exact ⟨hy.1, hy.2.1⟩
      go_wp2_with fail
      refine hc2.mono ?_
      rintro e w2 ⟨u, rfl, ho, _, hb⟩
      have hou := ho rfl
      have b4 := Below.thn b3 hb
      have hov2 := hov.up hb
      have hlow := hov.low
      have hb1 := b3.size
      obtain ⟨co, cc, rfl, _⟩ := hov.form
      obtain ⟨co2, cc2, rfl, _⟩ := hou.form
      have hend : TwoEnd r (cellsL n xs) (cellsL m ys) w (.returned (.tuple #[.slice co (cellsL n xs).length cc, .slice co2 (cellsL m ys).length cc2, .bool r])) w2 :=
        ⟨_, _, _, _, rfl, fun _ => ⟨hov2, hou, by omega, by omega, fun k hk => Nat.lt_trans (hlow k hk) (by omega)⟩, b4⟩
      have hrr : r = decide (n.toNat = m.toNat) := by
        rw [show r = _ from HR]
        by_cases e : n = m
        · subst e; simp
        · have : ¬ n.toNat = m.toNat := by omega
          simp [e, this]
      rw [hla, hlb] at hend
      have HE : Hid (TwoEnd r (cellsL n xs) (cellsL m ys) w (.returned (.tuple #[.slice co n.toNat cc, .slice co2 m.toNat cc2, .bool r])) w2) := hend
      clear hc2 hb d0 d1 g3 HR ho hov hov2 hou hlow hend b4
      rw [hla, hlb]
      clear hla hlb hn hm
      generalize n.toNat = a at *
      generalize m.toNat = d at *
      rcases Decidable.em (a = d) with rfl | e
      · have hrt : r = true := by rw [hrr]; simp
        subst hrt
        clear hrr
        go_wp2
        go_ret3
        exact HE
      · have hrt : r = false := by rw [hrr]; simp [e]
        subst hrt
        have e2 : ((a : Int) == (d : Int)) = false := by simp; omega
        clear hrr e
        go_wp2
        go_ret3
        exact HE

/-- Word by word, or cell by cell. -/
theorem below_cells {n : Int} {xs ys : List Nat} (hx : Bd xs) (hy : Bd ys) (kx : okR n xs = true) (ky : okR n ys = true) : belowL xs ys = true ↔ ∀ j, j < n.toNat → cellAt xs j ≤ cellAt ys j := by
  rw [below_iff hx hy]
  have hl := okR_len kx ky
  have kx' := kx
  simp only [okR, decide_eq_true_eq] at kx'
  obtain ⟨n0, n1, hln, _⟩ := kx'
  have hz := (okR_cells hx n0 n1 hln).1 kx
  constructor
  · intro h j hj
    exact h (j / 32) (by omega) (j % 32) (by omega)
  · intro h k hk j hj
    have e1 : (32 * k + j) / 32 = k := by omega
    have e2 : (32 * k + j) % 32 = j := by omega
    by_cases hlt : 32 * k + j < n.toNat
    · have := h _ hlt
      unfold cellAt at this
      rw [e1, e2] at this
      exact this
    · have := hz (32 * k + j) (by omega) (by omega)
      unfold cellAt at this
      rw [e1, e2] at this
      rw [this]
      exact Nat.zero_le _

def BoolEnd (c : Bool) (E : Int) (w : World) (e : Ending) (w' : World) : Prop := e = .returned (.tuple #[.bool c, .int .i64 E]) ∧ Below w.heap.size w w'

set_option maxHeartbeats 1000000 in
theorem refbelow_any (n m : Int) (ao bo : Option Addr) (ca cb : Nat) (xs ys : List Nat) (w : World) (h : Rd w ao xs) (g : Rd w bo ys) (hl : xs.length ≤ 17592186043904) (gl : ys.length ≤ 17592186043904) :
    Calls Try.prog 23 #[.agg #[.int .i64 n, .slice ao xs.length ca], .agg #[.int .i64 m, .slice bo ys.length cb]] w fun e w' => BoolEnd (okP n m xs ys && belowL xs ys) (if okP n m xs ys then 0 else 3) w e w' := by
  have hbx : Bd xs := h.lt
  have hby : Bd ys := g.lt
  obtain ⟨s1, s2⟩ := st_two w (.int .i64 n) (.slice ao xs.length ca) (.int .i64 m) (.slice bo ys.length cb)
  have b2 := below_two w (.cells #[.int .i64 n, .slice ao xs.length ca] 24) (.cells #[.int .i64 m, .slice bo ys.length cb] 24)
  have h2 := h.up b2
  have g2 := g.up b2
  have htw := two_any n m ao bo ca cb xs ys _ h2 g2 hl gl
  obtain ⟨c0, c1, _, _⟩ := s1.cells
  obtain ⟨d0, d1, _, _⟩ := s2.cells
  clear h g h2 g2 s1 s2
  cases hp : okP n m xs ys with
  | false =>
    rw [hp] at htw
    simp only [Bool.false_and, Bool.false_eq_true, if_false]
    go_enter Try.func23, Try.ntmps23
    go_wp2_with fail
    refine htw.mono ?_
    rintro e w1 ⟨v, u, B1, B2, rfl, _, hb⟩
    have b3 := Below.thn b2 hb
    clear htw hb c0 c1 d0 d1
    go_wp2
    go_ret2
    exact ⟨rfl, b3⟩
  | true =>
    rw [hp] at htw
    obtain ⟨kx, ky, rfl⟩ := okP_parts hp
    have hn : 0 ≤ n ∧ n ≤ 4096 := by simp only [okR, decide_eq_true_eq] at kx; exact ⟨kx.1, kx.2.1⟩
    simp only [Bool.true_and, if_true]
    have hbc := below_cells hbx hby kx ky
    obtain ⟨c, hc⟩ : ∃ c, c = belowL xs ys := ⟨_, rfl⟩
    rw [← hc] at hbc ⊢
    have HB : Hid (c = true ↔ ∀ j, j < n.toNat → cellAt xs j ≤ cellAt ys j) := hbc
    have hla := cellsL_len n xs
    have hlb := cellsL_len n ys
    have hga := cellsL_at n xs
    have hgb := cellsL_at n ys
    clear hc hbc hp kx ky
    go_enter Try.func23, Try.ntmps23
    go_wp2_with fail
    refine htw.mono ?_
    rintro e w1 ⟨v, u, B1, B2, rfl, ho, hb⟩
    obtain ⟨hov, hou, _, _, _⟩ := ho rfl
    have b3 := Below.thn b2 hb
    obtain ⟨co, cc, rfl, hra⟩ := hov.form
    obtain ⟨co2, cc2, rfl, hrb⟩ := hou.form
    rw [hla, hlb]
    have hN4 : n.toNat ≤ 4096 := by omega
    clear htw hb c0 c1 d0 d1 ho hov hou hn
    generalize n.toNat = N at *
    by_cases hz : N = 0
    · subst hz
      have hct : c = true := (show c = true ↔ _ from HB).2 (fun j hj => absurd hj (by omega))
      subst hct
      clear hra hrb hga hgb hla hlb
      go_wp2
      refine wp_loop_rounds 1 ?_
      rw [rounds_succ]
      go_wp2
      go_ret2
      exact ⟨rfl, b3⟩
    · obtain ⟨ba, oa, rfl, hca⟩ := hra (by intro e; rw [e] at hla; simp at hla; omega)
      obtain ⟨bb, ob, rfl, hcb⟩ := hrb (by intro e; rw [e] at hlb; simp at hlb; omega)
      rw [hla] at hca
      rw [hlb] at hcb
      clear hra hrb hla hlb
      go_wp2
      go_loopw [9] (fun i wr => ∃ k : Nat, k ≤ N ∧ i = .int .i64 k ∧ (∃ nn, wr = w1.drewN nn) ∧ Hid (∀ j, j < k → cellAt xs j ≤ cellAt ys j)) (fun i _ => N - (intOf i).toNat)
      case atStart => exact ⟨0, Nat.zero_le _, rfl, ⟨0, rfl⟩, fun j hj => absurd hj (by omega)⟩
      case round =>
        obtain ⟨k, hk, rfl, ⟨nn, rfl⟩, hall⟩ := hrel
        by_cases hlt : k < N
        · obtain ⟨x, hxe⟩ : ∃ x, x = cellAt xs k := ⟨_, rfl⟩
          obtain ⟨y, hye⟩ : ∃ y, y = cellAt ys k := ⟨_, rfl⟩
          have ha := hca k hlt
          have hb := hcb k hlt
          rw [hga k hlt, ← hxe] at ha
          rw [hgb k hlt, ← hye] at hb
          have HX : Hid (x = cellAt xs k) := hxe
          have HY : Hid (y = cellAt ys k) := hye
          clear hxe hye hca hcb hga hgb
          by_cases hxy : x ≤ y
          · have hxy2 : ¬ (y : Int) < (x : Int) := by omega
            go_wp2_with fail
            go_quiet (fail)
            go_wp2
            go_roundw
            case rel =>
              refine ⟨k + 1, by omega, by go_num, ⟨_, rfl⟩, fun j hj => ?_⟩
              rcases Nat.lt_or_ge j k with h | h
              · exact (show ∀ j, j < k → _ from hall) j h
              · have e : j = k := by omega
                rw [e, ← show x = _ from HX, ← show y = _ from HY]
                exact hxy
            case measure => simp [intOf]; omega
          · have hxy2 : (y : Int) < (x : Int) := by omega
            go_wp2_with fail
            go_quiet (fail)
            go_wp2
            go_ret2
            have hcf : c = false := by
              cases c with
              | false => rfl
              | true =>
                have := (show true = true ↔ _ from HB).1 rfl k hlt
                rw [← show x = _ from HX, ← show y = _ from HY] at this
                exact absurd this hxy
            subst hcf
            exact ⟨rfl, below_drewN (below_drewN b3 _) _⟩
        · have hke : k = N := by omega
          subst hke
          clear hca hcb hga hgb
          have hct : c = true := (show c = true ↔ _ from HB).2 hall
          subst hct
          go_wp2
          go_ret2
          exact ⟨rfl, below_drewN b3 _⟩
end Go.Proofs.Ytmckdefemdcknaa
