/-
  The walks of fathomref02.Get and Count.
-/
import Derived.Test.YtmckdefemdcknaaMk
namespace Go.Proofs.Ytmckdefemdcknaa
open Go.RowKit
open RowsM

theorem Ri.up {w w' : World} {ao : Option Addr} {cs : List Nat} (h : Ri w ao cs) (hb : Below w.heap.size w w') : Ri w' ao cs := by
  intro hz
  obtain ⟨b, off, rfl, hc⟩ := h hz
  have hl := h.lt_block hz
  exact ⟨b, off, rfl, fun t ht => by rw [hb.cell hl]; exact hc t ht⟩

theorem cellsL_len (n : Int) (xs : List Nat) : (cellsL n xs).length = n.toNat := by simp [cellsL]
theorem cellsL_at (n : Int) (xs : List Nat) (t : Nat) (ht : t < n.toNat) : (cellsL n xs).getD t 0 = cellAt xs t := by
  simp [cellsL, List.getD_eq_getElem?_getD, ht]
theorem cellsL_le (n : Int) (xs : List Nat) : ∀ c, c ∈ cellsL n xs → c ≤ 3 := by
  intro c hc
  unfold cellsL at hc
  rw [List.mem_map] at hc
  obtain ⟨i, _, rfl⟩ := hc
  have := cellAt_lt xs i
  omega

theorem getV_at {n : Int} {xs : List Nat} {i : Int} (h : okR n xs = true) (hi : inR n i = true) : getV n xs i = cellAt xs i.toNat := by
  have hi' : 0 ≤ i ∧ i < n := by simpa [inR] using hi
  unfold getV cellAt
  rw [h, hi]
  simp only [Bool.and_self, if_true]
  have e1 : (i / 32).toNat = i.toNat / 32 := by omega
  have e2 : (i % 32).toNat = i.toNat % 32 := by omega
  rw [e1, e2]

theorem cells_ok (n : Int) (ao : Option Addr) (ca : Nat) (xs cs : List Nat) (w : World) (hok : okR n xs = true) (hcs : cellsL n xs = cs) (h : Rd w ao xs) (hl : xs.length ≤ 17592186043904) :
    Calls Try.prog 12 #[.agg #[.int .i64 n, .slice ao xs.length ca]] w fun e w' => ∃ v, e = .returned (.tuple #[v, .bool true]) ∧ Oi w' (w.heap.size + 1) v cs ∧ Below w.heap.size w w' := by
  have := cells_any n ao ca xs w h hl
  rw [hok] at this
  refine this.mono ?_
  rintro e w' ⟨v, h1, h2, _, h4⟩
  rw [← hcs]
  exact ⟨v, h1, h2 rfl, h4⟩

def IntsEnd (V E : Int) (w : World) (e : Ending) (w' : World) : Prop := e = .returned (.tuple #[.int .i64 V, .int .i64 E]) ∧ Below w.heap.size w w'

set_option maxHeartbeats 1000000 in
theorem refget_any (n : Int) (ao : Option Addr) (ca : Nat) (xs : List Nat) (i : Int) (w : World) (h : Rd w ao xs) (hl : xs.length ≤ 17592186043904) :
    Calls Try.prog 17 #[.agg #[.int .i64 n, .slice ao xs.length ca], .int .i64 i] w fun e w' => IntsEnd (getV n xs i : Nat) (getE n xs i) w e w' := by
  have s1 := St.new w (.int .i64 n) (.slice ao xs.length ca)
  have b2 := below_alloc w (.cells #[.int .i64 n, .slice ao xs.length ca] 24)
  have h2 := h.up b2
  have hcl := cells_any n ao ca xs _ h2 hl
  obtain ⟨c0, c1, _, _⟩ := s1.cells
  clear h s1 h2
  cases hx : okR n xs with
  | false =>
    rw [hx] at hcl
    have hv : getV n xs i = 0 := by unfold getV; rw [hx]; rfl
    have he : getE n xs i = 3 := by unfold getE; rw [hx]; rfl
    rw [hv, he]
    go_enter Try.func17, Try.ntmps17
    go_wp2_with fail
    refine hcl.mono ?_
    rintro e w1 ⟨v, rfl, _, hv0, hb⟩
    have hv1 := hv0 rfl
    subst hv1
    have b3 := Below.thn b2 hb
    clear hcl hb c0 c1 hv0
    go_wp2
    go_ret2
    exact ⟨rfl, b3⟩
  | true =>
    rw [hx] at hcl
    have hn : 0 ≤ n ∧ n ≤ 4096 := by simp only [okR, decide_eq_true_eq] at hx; exact ⟨hx.1, hx.2.1⟩
    obtain ⟨n0, n1⟩ := hn
    cases hi : inR n i with
    | false =>
      have hv : getV n xs i = 0 := by unfold getV; rw [hi, Bool.and_false]; rfl
      have he : getE n xs i = 2 := by unfold getE; rw [hx, hi]; rfl
      rw [hv, he]
      have hi' : i < 0 ∨ n ≤ i := by simp [inR] at hi; omega
      go_enter Try.func17, Try.ntmps17
      go_wp2_with fail
      refine hcl.mono ?_
      rintro e w1 ⟨v, rfl, ho, _, hb⟩
      obtain ⟨co, cc, rfl, hri⟩ := (ho rfl).form
      have hlen := cellsL_len n xs
      generalize cellsL n xs = cs at *
      have b3 := Below.thn b2 hb
      have hli : (cs.length : Int) = n := by omega
      clear hcl hb c0 c1 ho hri hlen
      rcases Decidable.em (i < 0) with h4 | h4
      · go_wp2
        go_ret2
        exact ⟨rfl, b3⟩
      · have h5 : n ≤ i := by omega
        go_wp2
        go_ret2
        exact ⟨rfl, b3⟩
    | true =>
      have hi' : 0 ≤ i ∧ i < n := by simpa [inR] using hi
      obtain ⟨i0, i1⟩ := hi'
      have he : getE n xs i = 0 := by unfold getE; rw [hx, hi]; rfl
      have hv := getV_at hx hi
      rw [he, hv]
      clear hv he
      have hat := cellsL_at n xs i.toNat (by omega)
      have hlen := cellsL_len n xs
      obtain ⟨c, hc⟩ : ∃ c, cellAt xs i.toNat = c := ⟨_, rfl⟩
      rw [hc] at hat ⊢
      clear hc
      go_enter Try.func17, Try.ntmps17
      go_wp2_with fail
      refine hcl.mono ?_
      rintro e w1 ⟨v, rfl, ho, _, hb⟩
      obtain ⟨co, cc, rfl, hri⟩ := (ho rfl).form
      generalize cellsL n xs = cs at *
      have b3 := Below.thn b2 hb
      obtain ⟨b, off, rfl, hcs⟩ := hri (by intro e; rw [e] at hlen; simp at hlen; omega)
      have ha := hcs i.toNat (by omega)
      rw [hat] at ha
      have hil : i < (cs.length : Int) := by omega
      clear hcl hb c0 c1 ho hri hlen hcs hat
      go_wp2
      go_ret2
      exact ⟨rfl, b3⟩

/-- How many cells hold v. -/
def tally (cs : List Nat) (v : Nat) : Nat := (cs.map fun c => if c = v then 1 else 0).sum

theorem tally_take (cs : List Nat) (v k : Nat) (hk : k < cs.length) : tally (cs.take (k + 1)) v = tally (cs.take k) v + if cs.getD k 0 = v then 1 else 0 := by
  unfold tally
  rw [List.take_succ_eq_append_getElem hk, List.map_append, List.sum_append]
  simp [List.getD_eq_getElem?_getD, hk]

theorem tally_le (cs : List Nat) (v : Nat) : tally cs v ≤ cs.length := by
  induction cs with
  | nil => simp [tally]
  | cons c cs ih =>
    unfold tally at *
    simp only [List.map_cons, List.sum_cons, List.length_cons]
    split <;> omega

theorem tally_range (f : Nat → Nat) (a b v : Nat) : tally ((List.range (a + b)).map f) v = tally ((List.range a).map f) v + tally ((List.range b).map fun j => f (a + j)) v := by
  unfold tally
  rw [List.range_add, List.map_append, List.map_append, List.sum_append]
  simp only [List.map_map, Function.comp_def]

/-- Word by word, or cell by cell. -/
theorem tally_words (xs : List Nat) (v : Nat) : ∀ k, k ≤ xs.length → tally ((List.range (32 * k)).map (cellAt xs)) v = countL (xs.take k) v
  | 0, _ => by simp [tally, countL]
  | k + 1, h => by
    have e : 32 * (k + 1) = 32 * k + 32 := by omega
    rw [e, tally_range, tally_words xs v k (by omega), countL_take xs v k (by omega)]
    have h2 : List.map ((fun c => if c = v then 1 else 0) ∘ fun j => cellAt xs (32 * k + j)) (List.range 32) = List.map (fun j => if cell (xs.getD k 0) j = v then 1 else 0) (List.range 32) := by
      refine List.map_congr_left fun j hj => ?_
      have hj' := List.mem_range.1 hj
      show (if cellAt xs (32 * k + j) = v then 1 else 0) = _
      unfold cellAt
      have e1 : (32 * k + j) / 32 = k := by omega
      have e2 : (32 * k + j) % 32 = j := by omega
      rw [e1, e2]
    have h3 : tally ((List.range 32).map fun j => cellAt xs (32 * k + j)) v = cnt (xs.getD k 0) v := by
      unfold tally cnt S32
      rw [List.map_map, h2]
    rw [h3]

theorem tally_row {n : Int} {xs : List Nat} (hb : Bd xs) (h : okR n xs = true) (v : Nat) : (tally (cellsL n xs) v : Int) = (countL xs v : Int) - (if v = 0 then 32 * (xs.length : Int) - n else 0) := by
  have hr := h
  simp only [okR, decide_eq_true_eq] at hr
  obtain ⟨n0, n1, hln, _⟩ := hr
  have hz := (okR_cells hb n0 n1 hln).1 h
  have hw := tally_words xs v xs.length (Nat.le_refl _)
  rw [List.take_length] at hw
  have e : 32 * xs.length = n.toNat + (32 * xs.length - n.toNat) := by omega
  rw [e, tally_range] at hw
  have ht : tally ((List.range (32 * xs.length - n.toNat)).map fun j => cellAt xs (n.toNat + j)) v = if v = 0 then 32 * xs.length - n.toNat else 0 := by
    have : ((List.range (32 * xs.length - n.toNat)).map fun j => cellAt xs (n.toNat + j)) = List.replicate (32 * xs.length - n.toNat) 0 := by
      apply List.ext_getElem
      · simp
      · intro i h1 h2
        simp at h1
        simp only [List.getElem_map, List.getElem_range, List.getElem_replicate]
        exact hz _ (by omega) (by omega)
    rw [this]
    unfold tally
    rw [List.map_replicate, List.sum_replicate_nat]
    split
    · rename_i h0; subst h0; simp
    · rename_i h0; rw [if_neg (fun x => h0 x.symm)]; simp
  rw [ht] at hw
  unfold cellsL
  rw [← hw]
  split <;> omega

set_option maxHeartbeats 1000000 in
theorem refcount_any (n : Int) (ao : Option Addr) (ca : Nat) (xs : List Nat) (v : Int) (w : World) (h : Rd w ao xs) (hl : xs.length ≤ 17592186043904) :
    Calls Try.prog 21 #[.agg #[.int .i64 n, .slice ao xs.length ca], .int .i64 v] w fun e w' => IntsEnd (countV n xs v) (countE n xs v) w e w' := by
  have s1 := St.new w (.int .i64 n) (.slice ao xs.length ca)
  have b2 := below_alloc w (.cells #[.int .i64 n, .slice ao xs.length ca] 24)
  have hbd : Bd xs := h.lt
  have h2 := h.up b2
  have hcl := cells_any n ao ca xs _ h2 hl
  have hck := fun h cs hc => cells_ok n ao ca xs cs _ h hc h2 hl
  obtain ⟨c0, c1, _, _⟩ := s1.cells
  clear h s1 h2
  cases hx : okR n xs with
  | false =>
    rw [hx] at hcl
    have hv : countV n xs v = 0 := by unfold countV; rw [hx]; rfl
    have he : countE n xs v = 3 := by unfold countE; rw [hx]; rfl
    rw [hv, he]
    go_enter Try.func21, Try.ntmps21
    go_wp2_with fail
    refine hcl.mono ?_
    rintro e w1 ⟨u, rfl, _, hv0, hb⟩
    have hv1 := hv0 rfl
    subst hv1
    have b3 := Below.thn b2 hb
    clear hcl hb c0 c1 hv0
    go_wp2
    go_ret2
    exact ⟨rfl, b3⟩
  | true =>
    rw [hx] at hcl
    have hn : 0 ≤ n ∧ n ≤ 4096 := by simp only [okR, decide_eq_true_eq] at hx; exact ⟨hx.1, hx.2.1⟩
    obtain ⟨n0, n1⟩ := hn
    have hlen := cellsL_len n xs
    cases hi : okV v with
    | false =>
      have hv : countV n xs v = 0 := by unfold countV; rw [hi, Bool.and_false]; rfl
      have he : countE n xs v = 2 := by unfold countE; rw [hx, hi]; rfl
      rw [hv, he]
      have hi' : v < 0 ∨ 3 < v := by simp [okV] at hi; omega
      go_enter Try.func21, Try.ntmps21
      go_wp2_with fail
      refine hcl.mono ?_
      rintro e w1 ⟨u, rfl, ho, _, hb⟩
      obtain ⟨co, cc, rfl, hri⟩ := (ho rfl).form
      have b3 := Below.thn b2 hb
      clear hcl hb c0 c1 ho hri hlen
      rcases Decidable.em (v < 0) with h4 | h4
      · go_wp2
        go_ret2
        exact ⟨rfl, b3⟩
      · have h5 : 3 < v := by omega
        go_wp2
        go_ret2
        exact ⟨rfl, b3⟩
    | true =>
      obtain ⟨v0, v3⟩ : 0 ≤ v ∧ v ≤ 3 := by simpa [okV] using hi
      have he : countE n xs v = 0 := by unfold countE; rw [hx, hi]; rfl
      have hv : countV n xs v = (tally (cellsL n xs) v.toNat : Nat) := by
        rw [tally_row hbd hx]
        unfold countV
        rw [hx, hi]
        simp only [Bool.and_self, if_true]
        have e : (v.toNat = 0) = (v = 0) := propext (by omega)
        simp only [e]
      rw [he, hv]
      have hv4 : ∀ c : Nat, ((c : Int) = v) = (c = v.toNat) := fun c => propext (by omega)
      have H4 : Hid (∀ c : Nat, ((c : Int) = v) = (c = v.toNat)) := hv4
      clear he hv hv4 hcl
      have hcl := hck hx _ rfl
      generalize cellsL n xs = cs at *
      have hcl4 : cs.length ≤ 4096 := by omega
      go_enter Try.func21, Try.ntmps21
      go_wp2_with fail
      refine hcl.mono ?_
      rintro e w1 ⟨u, rfl, ho, hb⟩
      obtain ⟨co, cc, rfl, hri⟩ := ho.form
      have b3 := Below.thn b2 hb
      clear hcl hb c0 c1 ho hlen hck
      by_cases hz : cs = []
      · subst hz
        clear hri
        go_wp2
        refine wp_loop_rounds 1 ?_
        rw [rounds_succ]
        go_wp2
        go_ret2
        exact ⟨rfl, b3⟩
      · obtain ⟨b, off, rfl, hcs⟩ := hri hz
        clear hri
        go_wp2
        go_loop [8, 9] (fun a i => ∃ k : Nat, k ≤ cs.length ∧ i = .int .i64 k ∧ ∃ t : Nat, t ≤ k ∧ a = .int .i64 t ∧ Hid (t = tally (cs.take k) v.toNat)) (fun _ i => cs.length - (intOf i).toNat)
        case atStart => exact ⟨0, Nat.zero_le _, rfl, 0, Nat.le_refl _, rfl, by simp [Hid, tally]⟩
        case round =>
          obtain ⟨k, hk, rfl, t, htk, rfl, HT⟩ := hrel
          by_cases hlt : k < cs.length
          · obtain ⟨c, hce⟩ : ∃ c, c = cs.getD k 0 := ⟨_, rfl⟩
            have ha := hcs k hlt
            rw [← hce] at ha
            have HC : Hid (c = cs.getD k 0) := hce
            have htk1 := tally_take cs v.toNat k hlt
            have HTK : Hid (_ = _) := htk1
            clear hce hcs htk1
            by_cases hcv : (c : Int) = v
            · have hcv2 : ((c : Int) == v) = true := by simpa using hcv
              have HCV : Hid ((c : Int) = v) := hcv
              clear hcv
              go_wp2
              go_round
              case rel =>
                refine ⟨k + 1, by omega, by go_num, t + 1, by omega, by go_num, ?_⟩
                show t + 1 = _
                rw [show _ = _ from HTK, ← show c = _ from HC, ← show t = _ from HT, if_pos]
                rw [← (show ∀ c : Nat, _ from H4) c]
                exact HCV
              case measure => simp [intOf]; omega
            · have hcv2 : ((c : Int) == v) = false := by simpa using hcv
              go_wp2
              go_round
              case rel =>
                refine ⟨k + 1, by omega, by go_num, t, by omega, rfl, ?_⟩
                show t = _
                have hne : ¬ c = v.toNat := by rw [← (show ∀ c : Nat, _ from H4) c]; exact hcv
                rw [show _ = _ from HTK, ← show c = _ from HC, ← show t = _ from HT, if_neg hne, Nat.add_zero]
              case measure => simp [intOf]; omega
          · have hke : k = cs.length := by omega
            subst hke
            rw [List.take_length] at HT
            clear hcs
            go_wp2
            go_ret2
            rw [← show t = _ from HT]
            exact ⟨rfl, b3⟩
end Go.Proofs.Ytmckdefemdcknaa
