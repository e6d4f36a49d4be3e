/-
  The walk of fathomref02.Cells.
-/
import Derived.Test.YtiikkbofcccjfaaCp
namespace Go.Proofs.Ytiikkbofcccjfaa
open Go.RowKit
open RowsM
set_option maxRecDepth 100000

theorem Try.infoI : (Try.prog.info? 3).map (fun i => (i.zero, i.size, i.bytes)) = some (some (.int .i64 0), 1, 8) := by kernel_rfl
theorem Try.underI : Try.prog.underlying 48 = some (.slice 3) := by kernel_rfl

/-- Cell i of a row of words. -/
def cellAt (xs : List Nat) (i : Nat) : Nat := cell (xs.getD (i / 32) 0) (i % 32)
/-- A row's cells. -/
def cellsL (n : Int) (xs : List Nat) : List Nat := (List.range n.toNat).map (cellAt xs)

theorem cellAt_lt (xs : List Nat) (i : Nat) : cellAt xs i < 4 := Nat.mod_lt _ (by decide)

/-- It is a row just if it has as many words as its cells take, and the cells behind the last are nought. -/
theorem okR_cells {n : Int} {xs : List Nat} (hx : Bd xs) (n0 : 0 ≤ n) (n1 : n ≤ 4096) (hl : (xs.length : Int) = (n + 31) / 32) : okR n xs = true ↔ ∀ j, n.toNat ≤ j → j < 32 * xs.length → cellAt xs j = 0 := by
  rw [okR_iff hx]
  constructor
  · rintro ⟨_, _, _, h⟩ j hj hj2
    rcases h with h | h
    · omega
    · by_cases h4 : n % 32 = 0
      · omega
      · unfold cellAt
        have e : j / 32 = xs.length - 1 := by omega
        rw [e]
        exact h (j % 32) (by omega) (by omega)
  · intro h
    refine ⟨n0, n1, hl, ?_⟩
    by_cases h4 : n % 32 = 0
    · exact .inl h4
    · refine .inr fun j hj hj2 => ?_
      have := h (32 * (xs.length - 1) + j) (by omega) (by omega)
      unfold cellAt at this
      have e : (32 * (xs.length - 1) + j) / 32 = xs.length - 1 := by omega
      have e2 : (32 * (xs.length - 1) + j) % 32 = j := by omega
      rw [e, e2] at this
      exact this

/-- The cells gathered behind k rounds. -/
def got (n : Int) (xs : List Nat) (k : Nat) : List Nat := (List.range (min k n.toNat)).map (cellAt xs)

theorem got_step {n : Int} {xs : List Nat} {k : Nat} (h : k < n.toNat) : got n xs (k + 1) = got n xs k ++ [cellAt xs k] := by
  unfold got
  have e1 : min (k + 1) n.toNat = k + 1 := by omega
  have e2 : min k n.toNat = k := by omega
  rw [e1, e2, List.range_succ, List.map_append]
  rfl
theorem got_stay {n : Int} {xs : List Nat} {k : Nat} (h : n.toNat ≤ k) : got n xs (k + 1) = got n xs k := by
  unfold got
  have e1 : min (k + 1) n.toNat = n.toNat := by omega
  have e2 : min k n.toNat = n.toNat := by omega
  rw [e1, e2]
theorem got_len (n : Int) (xs : List Nat) (k : Nat) : (got n xs k).length = min k n.toNat := by simp [got]

/-- A slice of ints of the call's own. -/
def Oi (w : World) (B : Nat) (v : Value) (cs : List Nat) : Prop := w.ownsRow B 3 1 v cs.length (cs.map fun c : Nat => Value.int .i64 c)

theorem cell_word (xs : List Nat) (hx : Bd xs) (k : Nat) : wrap64 (bits .and .u64 (((xs.getD (k / 32) 0 : Nat) : Int) / 2 ^ (2 * (k % 32))) 3) = ((cellAt xs k : Nat) : Int) := by
  have e0 : 2 * (k % 32) = (2 * ((k : Int) % 32)).toNat := by omega
  rw [e0, and3_cell _ _ (by omega) (hx.get _)]
  have e : ((k : Int) % 32).toNat = k % 32 := by omega
  rw [e]
  have := cellAt_lt xs k
  unfold cellAt at this ⊢
  unfold wrap64
  omega

theorem one_new (w : World) (c : Nat) : ∀ j u, [Value.int .i64 c][j]? = some u → (w.alloc (.cells #[.int .i64 c] 3)).cell? ((⟨w.heap.size, 0, none⟩ : Addr).add j) = some u := by
  intro j u hj
  match j, hj with
  | 0, hj => simp at hj; subst hj; simp [Addr.add]

theorem own_low {w : World} {B e size n : Nat} {v : Value} {xs : List Value} (h : w.ownsRow B e size v n xs) : ∀ k, v.ownBlock = some k → B ≤ k := fun k hk => (h.lt k hk).1

/-- How Cells ends. -/
def CellsEnd (r : Bool) (n : Int) (xs : List Nat) (w : World) (e : Ending) (w' : World) : Prop :=
  ∃ v, e = .returned (.tuple #[v, .bool r]) ∧ (r = true → Oi w' (w.heap.size + 1) v (cellsL n xs)) ∧ (r = false → v = .slice none 0 0) ∧ Below w.heap.size w w'

theorem cellsEnd_no {n : Int} {xs : List Nat} {w w' : World} (h : Below w.heap.size w w') : CellsEnd false n xs w (.returned (.tuple #[.slice none 0 0, .bool false])) w' := ⟨_, rfl, fun h => (by cases h), fun _ => rfl, h⟩

set_option maxHeartbeats 2000000 in
theorem cells_any (n : Int) (ao : Option Addr) (ca : Nat) (xs : List Nat) (w : World) (h : Rd w ao xs) (hl : xs.length ≤ 17592186043904) :
    Calls Try.prog 41 #[.agg #[.int .i64 n, .slice ao xs.length ca]] w fun e w' => CellsEnd (okR n xs) n xs w e w' := by
  have s1 := St.new w (.int .i64 n) (.slice ao xs.length ca)
  have b2 := below_alloc w (.cells #[.int .i64 n, .slice ao xs.length ca] 41)
  have h2 := h.up b2
  clear h
  obtain ⟨c0, c1, _, _⟩ := s1.cells
  by_cases h1 : n < 0 ∨ 4096 < n ∨ (xs.length : Int) ≠ (n + 31) / 32
  · have hr : okR n xs = false := okR_false h1
    rw [hr]
    clear s1 h2 hr
    rcases Decidable.em (n < 0) with h3 | h3
    · go_enter Try.func41, Try.ntmps41
      go_wp2
      go_ret2
      exact cellsEnd_no b2
    · rcases Decidable.em (4096 < n) with h4 | h4
      · go_enter Try.func41, Try.ntmps41
        go_wp2
        go_ret2
        exact cellsEnd_no b2
      · have h5 : ((xs.length : Int) == (n + 31) / 32) = false := by simp; omega
        have h5' : ((xs.length : Int) != (n + 31) / 32) = true := by simp; omega
        go_enter Try.func41, Try.ntmps41
        go_wp2
        go_ret2
        exact cellsEnd_no b2
  · have hn : 0 ≤ n ∧ n ≤ 4096 ∧ (xs.length : Int) = (n + 31) / 32 := by omega
    obtain ⟨n0, n1, hln⟩ := hn
    have hbd : Bd xs := h2.lt
    have hok := okR_cells hbd n0 n1 hln
    obtain ⟨r, hr⟩ : ∃ r, r = okR n xs := ⟨_, rfl⟩
    rw [← hr] at hok ⊢
    have HOK : Hid (r = true ↔ ∀ j, n.toNat ≤ j → j < 32 * xs.length → cellAt xs j = 0) := hok
    have hlb : xs.length ≤ 128 := by omega
    have HLN : Hid ((xs.length : Int) = (n + 31) / 32) := hln
    have h5 : ((xs.length : Int) != (n + 31) / 32) = false := by simp [hln]
    clear hr hok h1
    obtain ⟨i0, hi, hz0, hz1, hz2⟩ := info_parts Try.infoI
    go_enter Try.func41, Try.ntmps41
    go_wp2
    clear h5 hln
    by_cases hz : xs = []
    · subst hz
      have hn' : n = 0 := by have := show ((([] : List Nat).length : Nat) : Int) = _ from HLN; simp at this; omega
      subst hn'
      have hrt : r = true := (show r = true ↔ _ from HOK).2 (by intro j _ hj; simp at hj)
      subst hrt
      clear h2 HOK HLN hlb s1 hbd
      refine wp_loop_rounds 1 ?_
      rw [rounds_succ]
      go_wp2
      go_ret2
      refine ⟨_, rfl, fun _ => ?_, fun h => (by cases h), b2⟩
      unfold Oi
      exact World.ownsRow_nil _ _ _ _
    · obtain ⟨b, off, rfl, hc⟩ := h2.pl hz
      have hblk : b < w.heap.size + 1 := by have := h2.lt_block hz; simpa using this
      clear h2
      generalize (w.alloc (.cells #[.int .i64 n, .slice (some ⟨b, off, none⟩) xs.length ca] 41)) = W1 at *
      have hW1 : w.heap.size + 1 ≤ W1.heap.size := s1.lt
      go_loopw [4, 5] (fun v i wr => ∃ k : Nat, k ≤ 32 * xs.length ∧ i = .int .i64 k ∧ Oi wr (w.heap.size + 1) v (got n xs k) ∧ Below (w.heap.size + 1) W1 wr ∧ Hid (∀ j, n.toNat ≤ j → j < k → cellAt xs j = 0)) (fun _ i _ => 32 * xs.length - (intOf i).toNat)
      case atStart => exact ⟨0, Nat.zero_le _, rfl, by unfold Oi got; simp; exact World.ownsRow_nil _ _ _ _, Below.refl _ _, fun j _ hj => absurd hj (by omega)⟩
      case round =>
        obtain ⟨k, hk, rfl, hown, hbl, hall⟩ := hrel
        have s1r : St wr w.heap.size (.int .i64 n) (.slice (some ⟨b, off, none⟩) xs.length ca) := by unfold St; rw [hbl.block _ (by omega)]; exact s1
        obtain ⟨e0, e1, _, _⟩ := s1r.cells
        have hb2 : Below w.heap.size w wr := b2.trans (hbl.mono (by omega))
        by_cases hlt : k < 32 * xs.length
        · obtain ⟨x, hxe⟩ : ∃ x, x = xs.getD (k / 32) 0 := ⟨_, rfl⟩
          have hk32 : k / 32 < xs.length := by omega
          have ha := (hbl.cell (p := ⟨b, off + k / 32, none⟩) (by show b < _; omega)).trans (hc _ hk32)
          have hcw := cell_word xs hbd k
          rw [← hxe] at ha hcw
          obtain ⟨c, hce⟩ : ∃ c, c = cellAt xs k := ⟨_, rfl⟩
          rw [← hce] at hcw
          have hc4 : c < 4 := by rw [hce]; exact cellAt_lt _ _
          have HC : Hid (c = cellAt xs k) := hce
          clear hxe hce hc c0 c1 s1 s1r
          by_cases hkn : (k : Int) < n
          · have hkn2 : k < n.toNat := by omega
            have hgl : (got n xs k).length = k := by rw [got_len]; omega
            have hown2 := hown
            unfold Oi at hown2
            rw [hgl] at hown2
            have hsz := hbl.size
            go_wp2_with (first
              | (at_builtin; refine wpList_append_own _ rfl (.tmp 50) (.tmp 52) 48 rfl (w.heap.size + 1) 3 i0 (.int .i64 0) 1 8 Try.underI hi hz0 hz1 hz2 rfl (by decide) _ _ _ rfl (hown2.alloc _) ⟨wr.heap.size, 0, none⟩ 1 1 [.int .i64 c] rfl rfl (one_new wr c) (by intro u hu; simp at hu; subst hu; rfl) (by unfold maxLen; omega) (by omega) (by simp; omega) ?_; intro v' w1 hown' hgrow _; have hbl1 := (hbl.alloc (by omega) (.cells #[.int .i64 c] 3)).grown hgrow (by simp; omega) (own_low hown2)))
            go_roundw
            case rel =>
              refine ⟨k + 1, by omega, by go_num, ?_, hbl1, fun j hj hj2 => (show ∀ j, _ from hall) j hj (by omega)⟩
              unfold Oi
              rw [got_step hkn2, ← show c = _ from HC, List.map_append, List.length_append, hgl]
              exact hown'
            case measure => simp [intOf]; omega
          · by_cases hc0 : c = 0
            · subst hc0
              go_wp2
              go_roundw
              case rel =>
                refine ⟨k + 1, by omega, by go_num, ?_, hbl, fun j hj hj2 => ?_⟩
                · rw [got_stay (by omega)]; exact hown
                · rcases Nat.lt_or_ge j k with h | h
                  · exact (show ∀ j, _ from hall) j hj h
                  · have e : j = k := by omega
                    rw [e, ← show 0 = _ from HC]
              case measure => simp [intOf]; omega
            · have hc1 : ((c : Int) != 0) = true := nz_int hc0
              go_wp2
              go_ret2
              have hrf : r = false := by
                cases r with
                | false => rfl
                | true =>
                  have := (show true = true ↔ _ from HOK).1 rfl k (by omega) hlt
                  rw [← show c = _ from HC] at this
                  exact absurd this hc0
              subst hrf
              exact cellsEnd_no hb2
        · have hke : k = 32 * xs.length := by omega
          go_wp2
          go_ret2
          have hrt : r = true := (show r = true ↔ _ from HOK).2 (by rw [← hke]; exact hall)
          subst hrt
          refine ⟨_, rfl, fun _ => ?_, fun h => (by cases h), hb2⟩
          have e : got n xs k = cellsL n xs := by
            unfold got cellsL
            have := show (xs.length : Int) = _ from HLN
            have e2 : min k n.toNat = n.toNat := by omega
            rw [e2]
          rw [← e]
          exact hown
end Go.Proofs.Ytiikkbofcccjfaa
