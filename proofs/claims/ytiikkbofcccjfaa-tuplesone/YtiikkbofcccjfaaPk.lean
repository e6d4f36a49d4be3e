/-
  The walk of fathomref02.Pack.
-/
import Derived.Test.YtiikkbofcccjfaaCe
import Derived.Test.YtiikkbofcccjfaaPl
namespace Go.Proofs.Ytiikkbofcccjfaa
open Go.RowKit
open RowsM
set_option maxRecDepth 100000

/-- What a slice of ints reads. -/
def Ri (w : World) (ao : Option Addr) (cs : List Nat) : Prop := cs ≠ [] → ∃ b off, ao = some ⟨b, off, none⟩ ∧ ∀ t, t < cs.length → w.cell? ⟨b, off + t, none⟩ = some (.int .i64 (cs.getD t 0 : Nat))

theorem Ri.lt_block {w : World} {b off : Nat} {cs : List Nat} (h : Ri w (some ⟨b, off, none⟩) cs) (hz : cs ≠ []) : b < w.heap.size := by
  obtain ⟨b', off', e, hc⟩ := h hz
  simp only [Option.some.injEq, Addr.mk.injEq, and_true] at e
  obtain ⟨rfl, rfl⟩ := e
  have h1 := hc 0 (List.length_pos_iff.2 hz)
  simp only [World.cell?] at h1
  rcases Nat.lt_or_ge b w.heap.size with h | h
  · exact h
  · exfalso
    rw [Array.getElem?_eq_none h] at h1
    simp at h1

theorem Oi.form {w : World} {B : Nat} {v : Value} {cs : List Nat} (h : Oi w B v cs) : ∃ ao cap, v = .slice ao cs.length cap ∧ Ri w ao cs := by
  rcases h.2 with ⟨rfl, h0⟩ | ⟨g, cap, cur, rfl, hb, hg, hn, hm, hs, ht⟩
  · have : cs = [] := List.length_eq_zero_iff.1 h0
    subst this
    exact ⟨none, 0, rfl, fun h => absurd rfl h⟩
  · refine ⟨some ⟨g, 0, none⟩, cap, rfl, fun _ => ⟨g, 0, rfl, fun t htl => ?_⟩⟩
    rw [Nat.zero_add, cell_of_row w g t _ _ _ hg]
    have e : cur[t]? = (cur.toList.take (cs.length * 1))[t]? := by rw [List.getElem?_take, if_pos (by omega)]; simp
    rw [e, ht]
    simp [htl]

/-- The words of the first k cells. -/
structure Packed (cs : List Nat) (k : Nat) (L : List Nat) : Prop where
  bd : Bd L
  len : L.length = (k + 31) / 32
  cl : ∀ q j, q < L.length → j < 32 → cell (L.getD q 0) j = if 32 * q + j < k then cs.getD (32 * q + j) 0 else 0

theorem packed_nil (cs : List Nat) : Packed cs 0 [] := ⟨by intro z hz; simp at hz, rfl, fun q j hq _ => absurd hq (by simp)⟩

def orW (x j c : Nat) : Nat := x ||| (c <<< (2 * j)) % 18446744073709551616

theorem orW_lt {x : Nat} (hx : x < 18446744073709551616) (j c : Nat) : orW x j c < 18446744073709551616 := or_lt hx (Nat.mod_lt _ (by decide))

theorem or_cell {x j c j' : Nat} (hx : cell x j = 0) (hc : c ≤ 3) (hj : j < 32) (hj' : j' < 32) : cell (orW x j c) j' = if j' = j then c else cell x j' := by
  unfold orW
  rw [cell_bits, Nat.testBit_or, Nat.testBit_or, shl_bit c j _ (by omega), shl_bit c j _ (by omega)]
  have hcb : ∀ i, 2 ≤ i → c.testBit i = false := fun i hi => Nat.testBit_lt_two_pow (Nat.lt_of_lt_of_le (show c < 2 ^ 2 by omega) (Nat.pow_le_pow_right (by decide) hi))
  by_cases h : j' = j
  · subst h
    rw [if_pos rfl]
    rw [cell_bits] at hx
    have x0 : x.testBit (2 * j') = false := by revert hx; cases x.testBit (2 * j') <;> simp
    have x1 : x.testBit (2 * j' + 1) = false := by revert hx; cases x.testBit (2 * j' + 1) <;> simp
    have e1 : 2 * j' - 2 * j' = 0 := by omega
    have e2 : 2 * j' + 1 - 2 * j' = 1 := by omega
    have d2 : decide (2 * j' ≤ 2 * j' + 1) = true := by simp
    rw [x0, x1, e1, e2, d2]
    have : c = 0 ∨ c = 1 ∨ c = 2 ∨ c = 3 := by omega
    rcases this with rfl | rfl | rfl | rfl <;> simp <;> decide
  · rw [if_neg h, cell_bits]
    have z0 : (decide (2 * j ≤ 2 * j') && c.testBit (2 * j' - 2 * j)) = false := by
      by_cases h2 : j < j'
      · rw [hcb _ (by omega), Bool.and_false]
      · have : decide (2 * j ≤ 2 * j') = false := by simp; omega
        rw [this, Bool.false_and]
    have z1 : (decide (2 * j ≤ 2 * j' + 1) && c.testBit (2 * j' + 1 - 2 * j)) = false := by
      by_cases h2 : j < j'
      · rw [hcb _ (by omega), Bool.and_false]
      · have : decide (2 * j ≤ 2 * j' + 1) = false := by simp; omega
        rw [this, Bool.false_and]
    rw [z0, z1, Bool.or_false, Bool.or_false]

theorem packed_more {cs : List Nat} {k : Nat} {L : List Nat} (h : Packed cs k L) (hk : k % 32 = 0) : Bd (L ++ [0]) ∧ (L ++ [0]).length = k / 32 + 1 ∧ ∀ q j, q < (L ++ [0]).length → j < 32 → cell ((L ++ [0]).getD q 0) j = if 32 * q + j < k then cs.getD (32 * q + j) 0 else 0 := by
  have hl := h.len
  refine ⟨?_, by rw [List.length_append, hl]; simp; omega, fun q j hq hj => ?_⟩
  · intro z hz
    rw [List.mem_append] at hz
    rcases hz with hz | hz
    · exact h.bd z hz
    · simp at hz; subst hz; decide
  · rw [List.length_append] at hq
    simp only [List.length_cons, List.length_nil] at hq
    by_cases e : q < L.length
    · have : (L ++ [0]).getD q 0 = L.getD q 0 := by simp [List.getD_eq_getElem?_getD, List.getElem?_append, e]
      rw [this]; exact h.cl q j e hj
    · have e2 : q = L.length := by omega
      have : (L ++ [0]).getD q 0 = 0 := by rw [e2]; simp [List.getD_eq_getElem?_getD]
      rw [this, if_neg (by omega)]
      simp [cell]

theorem packed_step {cs : List Nat} {k : Nat} {L : List Nat} (hb : Bd L) (hl : L.length = k / 32 + 1) (ha : ∀ q j, q < L.length → j < 32 → cell (L.getD q 0) j = if 32 * q + j < k then cs.getD (32 * q + j) 0 else 0) (hc : cs.getD k 0 ≤ 3) :
    Packed cs (k + 1) (L.set (k / 32) (orW (L.getD (k / 32) 0) (k % 32) (cs.getD k 0))) := by
  refine ⟨?_, by rw [List.length_set, hl]; omega, fun q j hq hj => ?_⟩
  · intro z hz
    rcases List.mem_or_eq_of_mem_set hz with h | h
    · exact hb z h
    · rw [h]; exact orW_lt (hb.get _) _ _
  · rw [List.length_set] at hq
    have hx0 : cell (L.getD (k / 32) 0) (k % 32) = 0 := by rw [ha _ _ (by omega) (by omega), if_neg (by omega)]
    have hg : (L.set (k / 32) (orW (L.getD (k / 32) 0) (k % 32) (cs.getD k 0))).getD q 0 = if q = k / 32 then orW (L.getD (k / 32) 0) (k % 32) (cs.getD k 0) else L.getD q 0 := by
      rw [List.getD_eq_getElem?_getD, List.getElem?_set]
      by_cases e : k / 32 = q
      · subst e; simp [hq]
      · rw [if_neg e, if_neg (fun x => e x.symm), List.getD_eq_getElem?_getD]
    rw [hg]
    by_cases e : q = k / 32
    · subst e
      rw [if_pos rfl, or_cell hx0 hc (by omega) hj]
      by_cases e2 : j = k % 32
      · rw [if_pos e2, if_pos (by omega)]
        congr 1
        omega
      · rw [if_neg e2, ha _ _ hq hj]
        by_cases e3 : 32 * (k / 32) + j < k
        · rw [if_pos e3, if_pos (by omega)]
        · rw [if_neg e3, if_neg (by omega)]
    · rw [if_neg e, ha _ _ hq hj]
      by_cases e3 : 32 * q + j < k
      · rw [if_pos e3, if_pos (by omega)]
      · rw [if_neg e3, if_neg (by omega)]

/-- Words are told by their cells. -/
theorem packed_one {cs : List Nat} {L M : List Nat} (h : Packed cs cs.length L) (hb : Bd M) (hl : M.length = (cs.length + 31) / 32) (ha : ∀ q j, q < M.length → j < 32 → cell (M.getD q 0) j = if 32 * q + j < cs.length then cs.getD (32 * q + j) 0 else 0) : L = M := by
  refine ext_getD (by rw [h.len, hl]) fun q hq => ?_
  refine ext (h.bd.get q) (hb.get q) fun j hj => ?_
  rw [h.cl q j hq hj, ha q j (by rw [hl, ← h.len]; exact hq) hj]

theorem one_word (w : World) : ∀ j u, [Value.int .u64 0][j]? = some u → (w.alloc (.cells #[.int .u64 0] 68)).cell? ((⟨w.heap.size, 0, none⟩ : Addr).add j) = some u := by
  intro j u hj
  match j, hj with
  | 0, hj => simp at hj; subst hj; simp [Addr.add]

/-- A struct below a row's base stays when the row grows. -/
theorem st_grown {w w1 : World} {o : Obj} {R B : Nat} {x y v : Value} (h : St w R x y) (hg : (w.alloc o).grownBy w1 v.ownBlock) (hv : ∀ q, v.ownBlock = some q → B ≤ q) (hR : R < B := by omega) : St w1 R x y := by
  unfold St
  rw [hg.block R (by have := h.lt; simp; omega) (fun e => by have := hv R e.symm; omega), Below.heap_alloc _ _ _ h.lt]
  exact h

theorem own_form {w : World} {B e n : Nat} {v : Value} {xs : List Value} (h : w.ownsRow B e 1 v n xs) (hn : 0 < n) : ∃ g cap, v = .slice (some ⟨g, 0, none⟩) n cap ∧ B ≤ g := by
  rcases h.2 with ⟨_, h0⟩ | ⟨g, cap, cur, rfl, hb, _⟩
  · omega
  · exact ⟨g, cap, rfl, hb⟩

theorem own_set_low {w : World} {B e n : Nat} {v : Value} {xs : List Value} (h : w.ownsRow B e 1 v n xs) {a : Addr} (ha : a.block < B) (u : Value) : (w.setCell a u).ownsRow B e 1 v n xs := by
  rcases h with ⟨h1, h2 | ⟨g, cap, cur, rfl, hb, hg, h3⟩⟩
  · exact ⟨h1, .inl h2⟩
  · exact ⟨h1, .inr ⟨g, cap, cur, rfl, hb, by rw [Below.heap_setCell _ _ _ _ (by omega)]; exact hg, h3⟩⟩

theorem st_set {w : World} {R : Nat} {x y : Value} (h : St w R x y) (u : Value) : St (w.setCell ⟨R, 1, none⟩ u) R x u := by
  unfold St
  rw [heap_setCell_same w R 1 _ _ _ h]
  rfl

theorem own_word {w : World} {B g n cap : Nat} {L : List Nat} (h : w.ownsRow B 68 1 (.slice (some ⟨g, 0, none⟩) n cap) n (L.map fun z : Nat => Value.int .u64 z)) (hn : L.length = n) (t : Nat) (ht : t < L.length) : w.cell? ⟨g, t, none⟩ = some (.int .u64 (L.getD t 0 : Nat)) := by
  rw [h.cellAt t (by omega)]
  simp [ht]

theorem own_rd {w : World} {B : Nat} {v : Value} {L : List Nat} (h : w.ownsRow B 68 1 v L.length (L.map fun z : Nat => Value.int .u64 z)) (hb : Bd L) : ∃ so cap, v = .slice so L.length cap ∧ (L ≠ [] → ∀ b off, so = some ⟨b, off, none⟩ → B ≤ b) ∧ Rd w so L := by
  rcases h.2 with ⟨rfl, h0⟩ | ⟨g, cap, cur, rfl, hB, _⟩
  · have : L = [] := List.length_eq_zero_iff.1 h0
    subst this
    exact ⟨none, 0, rfl, fun h => absurd rfl h, Rd.nil _ _⟩
  · refine ⟨some ⟨g, 0, none⟩, cap, rfl, fun _ b off e => ?_, ⟨hb, fun _ => ⟨g, 0, rfl, fun t ht => ?_⟩⟩⟩
    · simp only [Option.some.injEq, Addr.mk.injEq] at e; omega
    · rw [Nat.zero_add]; exact own_word h rfl t ht

/-- The round's second half: the cell is put into its word. -/
theorem round_half {cs : List Nat} {k : Nat} {L : List Nat} {w W2 wz : World} {G cp : Nat} (hb : Bd L) (hl : L.length = k / 32 + 1) (ha : ∀ q j, q < L.length → j < 32 → cell (L.getD q 0) j = if 32 * q + j < k then cs.getD (32 * q + j) 0 else 0) (hc : cs.getD k 0 ≤ 3)
    (hG : w.heap.size + 2 ≤ G) (sR : St wz (w.heap.size + 1) (.int .i64 (cs.length : Nat)) (.slice (some ⟨G, 0, none⟩) L.length cp)) (hown : wz.ownsRow (w.heap.size + 2) 68 1 (.slice (some ⟨G, 0, none⟩) L.length cp) L.length (L.map fun z : Nat => Value.int .u64 z)) (hbl : Below (w.heap.size + 1) W2 wz) :
    ∃ v L', St (wz.setCell ⟨G, k / 32, none⟩ (.int .u64 (orW (L.getD (k / 32) 0) (k % 32) (cs.getD k 0) : Nat))).drew (w.heap.size + 1) (.int .i64 (cs.length : Nat)) v ∧
      (wz.setCell ⟨G, k / 32, none⟩ (.int .u64 (orW (L.getD (k / 32) 0) (k % 32) (cs.getD k 0) : Nat))).drew.ownsRow (w.heap.size + 2) 68 1 v L'.length (L'.map fun z : Nat => Value.int .u64 z) ∧ Packed cs (k + 1) L' ∧ Below (w.heap.size + 1) W2 (wz.setCell ⟨G, k / 32, none⟩ (.int .u64 (orW (L.getD (k / 32) 0) (k % 32) (cs.getD k 0) : Nat))).drew := by
  refine ⟨.slice (some ⟨G, 0, none⟩) L.length cp, L.set (k / 32) (orW (L.getD (k / 32) 0) (k % 32) (cs.getD k 0)), ?_, ?_, packed_step hb hl ha hc, ?_⟩
  · show St (wz.setCell _ _) _ _ _
    unfold St
    rw [Below.heap_setCell _ _ _ _ (by show w.heap.size + 1 ≠ G; omega)]
    exact sR
  · have := (hown.stored (k / 32) (.int .u64 (orW (L.getD (k / 32) 0) (k % 32) (cs.getD k 0) : Nat))).1
    rw [List.length_set, List.map_set]
    exact this
  · exact (hbl.setCell (by show _ ≤ G; omega) _).drew

/-- How Pack ends. -/
def PackEnd (cs : List Nat) (w : World) (e : Ending) (w' : World) : Prop :=
  ∃ so cap L, e = .returned (.agg #[.int .i64 (cs.length : Nat), .slice so L.length cap]) ∧ Packed cs cs.length L ∧ Rd w' so L ∧ Below w.heap.size w w' ∧ (L ≠ [] → ∀ b off, so = some ⟨b, off, none⟩ → w.heap.size ≤ b)

set_option maxHeartbeats 2000000 in
theorem pack_any (co : Option Addr) (cc : Nat) (cs : List Nat) (w : World) (h : Ri w co cs) (hl : cs.length ≤ 4096) (h3 : ∀ c, c ∈ cs → c ≤ 3) :
    Calls Try.prog 56 #[.slice co cs.length cc] w fun e w' => PackEnd cs w e w' := by
  obtain ⟨s1, s2⟩ := st_two w (.int .i64 0) (.slice none 0 0) (.int .i64 (cs.length : Nat)) (.slice none 0 0)
  have b2 := below_two w (.cells #[.int .i64 0, .slice none 0 0] 41) (.cells #[.int .i64 (cs.length : Nat), .slice none 0 0] 41)
  obtain ⟨i0, hi, hz0, hz1, hz2⟩ := info_parts Try.infoW
  go_enter Try.func56, Try.ntmps56
  go_wp2
  generalize hW : ((w.alloc (.cells #[.int .i64 0, .slice none 0 0] 41)).alloc (.cells #[.int .i64 (cs.length : Nat), .slice none 0 0] 41)) = W2 at *
  have hsz : W2.heap.size = w.heap.size + 2 := by rw [← hW]; simp
  clear hW
  by_cases hz : cs = []
  · subst hz
    obtain ⟨q0, q1, q2, q3⟩ := s1.cells
    obtain ⟨p0, p1, p2, p3⟩ := s2.cells
    clear s1 s2 h
    refine wp_loop_rounds 1 ?_
    rw [rounds_succ]
    go_wp2
    refine bodyPost_ret (v := .agg #[.int .i64 0, .slice none 0 0]) (by simp [results, Try.results56, go_sem, q0, q1]) rfl ⟨none, 0, [], rfl, packed_nil [], Rd.nil _ _, ?_, fun h => absurd rfl h⟩
    exact (b2.setCell (Nat.le_refl _) _).setCell (Nat.le_refl _) _
  · obtain ⟨b, off, rfl, hc⟩ := h hz
    have hblk := h.lt_block hz
    clear h
    go_loopw [4] (fun i wr => ∃ k : Nat, k ≤ cs.length ∧ i = .int .i64 k ∧ ∃ v L, St wr (w.heap.size + 1) (.int .i64 (cs.length : Nat)) v ∧ wr.ownsRow (w.heap.size + 2) 68 1 v L.length (L.map fun z : Nat => Value.int .u64 z) ∧ Packed cs k L ∧ Below (w.heap.size + 1) W2 wr) (fun i _ => cs.length - (intOf i).toNat)
    case atStart => exact ⟨0, Nat.zero_le _, rfl, .slice none 0 0, [], s2, World.ownsRow_nil _ _ _ _, packed_nil cs, Below.refl _ _⟩
    case round =>
      obtain ⟨k, hk, rfl, v, L, sR, hown, hP, hbl⟩ := hrel
      have hbw := hbl.size
      by_cases hlt : k < cs.length
      · obtain ⟨c, hce⟩ : ∃ c, c = cs.getD k 0 := ⟨_, rfl⟩
        have hcm : c ≤ 3 := by
          rw [hce, List.getD_eq_getElem?_getD, List.getElem?_eq_getElem hlt]
          exact h3 _ (List.getElem_mem hlt)
        have HC : Hid (c = cs.getD k 0) := hce
        have hca : ∀ w', Below (w.heap.size + 1) W2 w' → w'.cell? ⟨b, off + k, none⟩ = some (.int .i64 c) := fun w' hb => by
          have hcell := hc k hlt
          rw [← hce] at hcell
          rw [hb.cell (by show b < _; omega), b2.cell (by show b < _; omega)]
          exact hcell
        obtain ⟨e0, e1, e2, e3⟩ := sR.cells
        by_cases hk32 : k % 32 = 0
        · have hk32' : ((k : Int) % 32 == 0) = true := by simp; omega
          have hll := hP.len
          have hlen : L.length ≤ 129 := by omega
          have HLL : Hid (L.length = (k + 31) / 32) := hll
          clear hll hc s1 s2 hce
          go_wp2_with (first
            | (at_builtin; refine wpList_append_own _ rfl (.tmp 18) (.tmp 19) 39 rfl (w.heap.size + 2) 68 i0 (.int .u64 0) 1 8 Try.underS hi hz0 hz1 hz2 rfl (by decide) _ _ _ rfl (hown.alloc _) ⟨wr.heap.size, 0, none⟩ 1 1 [.int .u64 0] rfl rfl (one_word wr) (by intro u hu; simp at hu; subst hu; rfl) (by unfold maxLen; omega) (by omega) (by simp; omega) ?_; intro v' w1 hown' hgrow _; have hbl1 := (hbl.alloc (by omega) (.cells #[.int .u64 0] 68)).grown hgrow (by simp; omega) (fun q hq => Nat.le_trans (Nat.le_succ _) (own_low hown q hq)); have sR1 := st_grown sR hgrow (own_low hown); obtain ⟨f0, f1, f2, f3⟩ := sR1.cells; obtain ⟨G, cp, rfl, hG⟩ := own_form hown' (Nat.succ_pos _)))
          have sZ := st_set sR1 (.slice (some ⟨G, 0, none⟩) (L.length + 1) cp)
          have oZ := own_set_low hown' (a := ⟨w.heap.size + 1, 1, none⟩) (by show w.heap.size + 1 < w.heap.size + 2; omega) (.slice (some ⟨G, 0, none⟩) (L.length + 1) cp)
          have bZ := hbl1.setCell (p := ⟨w.heap.size + 1, 1, none⟩) (Nat.le_refl _) (.slice (some ⟨G, 0, none⟩) (L.length + 1) cp)
          obtain ⟨hb1, hl1, ha1⟩ := packed_more hP hk32
          obtain ⟨L1, hL1⟩ : ∃ L1, L1 = L ++ [0] := ⟨_, rfl⟩
          obtain ⟨NN, hNN⟩ : ∃ NN, NN = L.length + 1 := ⟨_, rfl⟩
          have hNL : L1.length = NN := by rw [hL1, hNN]; simp
          have hmap : (L.map fun z : Nat => Value.int .u64 z) ++ [Value.int .u64 0] = L1.map fun z : Nat => Value.int .u64 z := by rw [hL1]; simp
          rw [hmap] at oZ
          rw [← hL1] at hb1 hl1 ha1
          generalize hwz : (w1.setCell ⟨w.heap.size + 1, 1, none⟩ (.slice (some ⟨G, 0, none⟩) (L.length + 1) cp)) = wz at *
          rw [← hNN] at oZ sZ ⊢
          clear hwz hmap hown' hgrow hbl1 sR1 f0 f1 f2 f3 e0 e1 e2 e3 hown hP hbl sR HLL hlen hL1 hNN
          obtain ⟨x, hxe⟩ : ∃ x, x = L1.getD (k / 32) 0 := ⟨_, rfl⟩
          obtain ⟨g0, g1, _, _⟩ := sZ.cells
          have g2 := own_word oZ (by rw [hNL]) (k / 32) (by omega)
          have gf := oZ.frozenAt (k / 32)
          rw [← hxe] at g2
          have hx0 : x < 18446744073709551616 := by rw [hxe]; exact hb1.get _
          have HX : Hid (x = L1.getD (k / 32) 0) := hxe
          have g3 := hca _ bZ
          clear hxe
          have hne1 : G ≠ w.heap.size + 1 := by omega
          have hne2 : G ≠ b := by omega
          have hq3 : 0 ≤ (k : Int) / 32 := by omega
          have hq4 : (k : Int).tdiv 32 = (k : Int) / 32 := Int.tdiv_eq_ediv_of_nonneg (by omega)
          have hq5 : IntKind.i64.wrap ((k : Int) / 32) = (k : Int) / 32 := by rw [IntKind.wrap_i64]; omega
          have hq6 : ((k : Int) / 32).toNat = k / 32 := by omega
          have hq7 : (k : Int) / 32 < (NN : Int) := by omega
          go_region
          have hv : bits .or .u64 (x : Int) (c : Int) = ((orW x (k % 32) c : Nat) : Int) := by
            rw [u64_or_nat x c hx0 (by omega), hk32]
            unfold orW
            rw [Nat.mul_zero, Nat.shiftLeft_zero, Nat.mod_eq_of_lt (by omega)]
          rw [hv]
          rw [← hNL] at sZ oZ
          obtain ⟨v2, L2, t1, t2, t3, t4⟩ := round_half (cs := cs) hb1 hl1 ha1 (by rw [← show c = _ from HC]; exact hcm) hG sZ oZ bZ
          rw [← show x = _ from HX, ← show c = _ from HC] at t1 t2 t4
          rw [hk32] at t1 t2 t4
          clear g0 g1 g2 gf g3 sZ oZ bZ hca
          go_wp2
          go_roundw
          case rel => exact ⟨k + 1, by omega, by go_num, v2, L2, t1, t2, t3, t4⟩
          case measure => simp [intOf]; omega
        · have hk32' : ((k : Int) % 32 == 0) = false := by simp; omega
          have hll := hP.len
          have hlp : 0 < L.length := by omega
          obtain ⟨G, cp, rfl, hG⟩ := own_form hown hlp
          have hl1 : L.length = k / 32 + 1 := by omega
          obtain ⟨x, hxe⟩ : ∃ x, x = L.getD (k / 32) 0 := ⟨_, rfl⟩
          have g2 := own_word hown rfl (k / 32) (by omega)
          have gf := hown.frozenAt (k / 32)
          rw [← hxe] at g2
          have hx0 : x < 18446744073709551616 := by rw [hxe]; exact hP.bd.get _
          have HX : Hid (x = L.getD (k / 32) 0) := hxe
          have HL1 : Hid (L.length = k / 32 + 1) := hl1
          have g3 := hca _ hbl
          have hne1 : G ≠ w.heap.size + 1 := by omega
          have hne2 : G ≠ b := by omega
          have hq7 : (k : Int) / 32 < (L.length : Int) := by omega
          clear hxe hl1 hll hc s1 s2 hce
          go_wp2_with fail
          go_region
          have hv : bits .or .u64 (x : Int) (IntKind.u64.wrap ((c : Int) * 2 ^ (2 * (k % 32)))) = ((orW x (k % 32) c : Nat) : Int) := by
            have e : IntKind.u64.wrap ((c : Int) * 2 ^ (2 * (k % 32))) = (((c <<< (2 * (k % 32))) % 18446744073709551616 : Nat) : Int) := by
              rw [IntKind.wrap_u64, Nat.shiftLeft_eq, Int.natCast_emod, Int.natCast_mul, Int.natCast_pow]
              rfl
            rw [e, u64_or_nat x _ hx0 (Nat.mod_lt _ (by decide))]
            rfl
          rw [hv]
          obtain ⟨v2, L2, t1, t2, t3, t4⟩ := round_half (cs := cs) hP.bd HL1 hP.cl (by rw [← show c = _ from HC]; exact hcm) hG sR hown hbl
          rw [← show x = _ from HX, ← show c = _ from HC] at t1 t2 t4
          clear g2 gf g3 sR hown hbl hca e0 e1 e2 e3
          go_wp2
          go_roundw
          case rel => exact ⟨k + 1, by omega, by go_num, v2, L2, t1, t2, t3, t4⟩
          case measure => simp [intOf]; omega
      · have hke : k = cs.length := by omega
        subst hke
        have sQ : St wr w.heap.size (.int .i64 0) (.slice none 0 0) := by unfold St; rw [hbl.block _ (by omega)]; exact s1
        obtain ⟨q0, q1, q2, q3⟩ := sQ.cells
        have hbf : Below w.heap.size w wr := b2.trans (hbl.mono (by omega))
        obtain ⟨so, cap, rfl, hrd⟩ := own_rd hown hP.bd
        obtain ⟨e0, e1, e2, e3⟩ := sR.cells
        clear sQ sR s1 s2 hc
        go_wp2
        refine bodyPost_ret (v := .agg #[.int .i64 (cs.length : Nat), .slice so L.length cap]) (by simp [results, Try.results56, go_sem, q0, q1]) rfl ⟨so, cap, L, rfl, hP, ?_, ?_, fun h b off e => Nat.le_trans (Nat.le_add_right _ 2) (hrd.1 h b off e)⟩
        · refine (hrd.2.other ?_ _).other ?_ _
          · intro h b off e; have := hrd.1 h b off e; show b ≠ w.heap.size; omega
          · intro h b off e; have := hrd.1 h b off e; show b ≠ w.heap.size; omega
        · exact (hbf.setCell (Nat.le_refl _) _).setCell (Nat.le_refl _) _
end Go.Proofs.Ytiikkbofcccjfaa
