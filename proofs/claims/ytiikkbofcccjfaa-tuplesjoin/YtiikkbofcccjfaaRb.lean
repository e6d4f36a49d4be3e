/-
  The walks of blank, New, checkPair and Below.
-/
import Derived.Test.YtiikkbofcccjfaaRa
import Derived.OwnWalk
import Derived.Laws.OwnMore
import Derived.Deep.RegionWith
namespace Go.Proofs.Ytiikkbofcccjfaa
open Go.RowKit
open RowsM

theorem Try.infoW : (Try.prog.info? 68).map (fun i => (i.zero, i.size, i.bytes)) = some (some (.int .u64 0), 1, 8) := by kernel_rfl
theorem Try.underS : Try.prog.underlying 39 = some (.slice 68) := by kernel_rfl

theorem made_words (m : Nat) : (madeCells (Value.int .u64 0).cells (m * 1)).toList = (List.replicate m (0 : Nat)).map (fun z : Nat => Value.int .u64 z) := by
  rw [List.map_replicate]
  simp only [madeCells, Value.cells]
  apply List.ext_getElem
  · simp
  · intro i h1 h2
    simp [Nat.mod_one]

/-- Block g is an array of just these words, free to be written. -/
def Ob (w : World) (g : Nat) (zs : List Nat) : Prop := w.heap[g]? = some (.cells (zs.map fun z : Nat => Value.int .u64 z).toArray 68 (0, 0))

theorem Ob.lt {w : World} {g : Nat} {zs : List Nat} (h : Ob w g zs) : g < w.heap.size := by
  rcases Nat.lt_or_ge g w.heap.size with k | k
  · exact k
  · unfold Ob at h; rw [Array.getElem?_eq_none k] at h; cases h

theorem Ob.cell {w : World} {g : Nat} {zs : List Nat} (h : Ob w g zs) {t : Nat} (ht : t < zs.length) : w.cell? ⟨g, t, none⟩ = some (.int .u64 (zs.getD t 0 : Nat)) := by
  rw [cell_of_row w g t _ _ _ h]
  simp [ht]

theorem Ob.free {w : World} {g : Nat} {zs : List Nat} (h : Ob w g zs) (t : Nat) : w.frozen? ⟨g, t, none⟩ = false := frozen_of_row w g t _ _ h

theorem Ob.set {w : World} {g : Nat} {zs : List Nat} (h : Ob w g zs) (t z : Nat) : Ob (w.setCell ⟨g, t, none⟩ (.int .u64 z)) g (zs.set t z) := by
  unfold Ob
  rw [heap_setCell_same w g t _ _ _ h]
  simp [List.map_set]

theorem Ob.other {w : World} {g : Nat} {zs : List Nat} (h : Ob w g zs) {a : Addr} (ha : g ≠ a.block) (u : Value) : Ob (w.setCell a u) g zs := by
  unfold Ob; rw [Below.heap_setCell _ _ _ _ ha]; exact h

theorem Ob.alloc {w : World} {g : Nat} {zs : List Nat} (h : Ob w g zs) (o : Obj) : Ob (w.alloc o) g zs := by
  unfold Ob; rw [Below.heap_alloc _ _ _ h.lt]; exact h

theorem Ob.up {w w' : World} {g B : Nat} {zs : List Nat} (h : Ob w g zs) (hb : Below B w w') (hg : g < B) : Ob w' g zs := by
  unfold Ob; rw [hb.block g hg]; exact h

theorem Ob.rd {w : World} {g : Nat} {zs : List Nat} (h : Ob w g zs) (hl : ∀ z, z ∈ zs → z < 18446744073709551616) : Rd w (some ⟨g, 0, none⟩) zs :=
  ⟨hl, fun _ => ⟨g, 0, rfl, fun t ht => by rw [Nat.zero_add]; exact h.cell ht⟩⟩

theorem Ob.made {w : World} {B g m : Nat} (h : w.ownsRow B 68 1 (.slice (some ⟨g, 0, none⟩) m m) m (madeCells (Value.int .u64 0).cells (m * 1)).toList) : Ob w g (List.replicate m 0) ∧ B ≤ g := by
  rcases h.2 with ⟨h', _⟩ | ⟨g', cap', cur, h', hb, hg, _, _, hs, htake⟩
  · simp at h'
  · simp only [Value.slice.injEq, Option.some.injEq, Addr.mk.injEq, and_true, true_and] at h'
    obtain ⟨rfl, rfl⟩ := h'
    refine ⟨?_, hb⟩
    unfold Ob
    rw [hg, ← made_words, ← htake, List.take_of_length_le (by rw [Array.length_toList, hs]; exact Nat.le_refl _)]

/-- What a new struct of a number and a slice holds, behind blocks laid since. -/
theorem two_kept {B : Nat} {w w1 : World} {x y : Value} {T : TypeId} (hb : Below B (w.alloc (.cells #[x, y] T)) w1) (hB : w.heap.size < B := by simp) :
    w1.cell? ⟨w.heap.size, 0, none⟩ = some x ∧ w1.cell? ⟨w.heap.size, 1, none⟩ = some y ∧ w1.frozen? ⟨w.heap.size, 0, none⟩ = false ∧ w1.frozen? ⟨w.heap.size, 1, none⟩ = false := by
  have h := (hb.block w.heap.size hB).trans (heap_alloc_new w (.cells #[x, y] T))
  refine ⟨?_, ?_, ?_, ?_⟩
  · rw [cell_of_row w1 _ 0 _ _ _ h]; rfl
  · rw [cell_of_row w1 _ 1 _ _ _ h]; rfl
  · exact frozen_of_row w1 _ 0 _ _ h
  · exact frozen_of_row w1 _ 1 _ _ h

set_option maxHeartbeats 1000000 in
theorem blank_any (n : Int) (h0 : 0 ≤ n) (h1 : n ≤ 4096) (w : World) :
    Calls Try.prog 52 #[.int .i64 n] w fun e w' => ∃ g, e = .returned (.agg #[.int .i64 n, .slice (some ⟨g, 0, none⟩) ((n + 31) / 32).toNat ((n + 31) / 32).toNat]) ∧
      Ob w' g (List.replicate ((n + 31) / 32).toNat 0) ∧ w.heap.size ≤ g ∧ Below w.heap.size w w' := by
  obtain ⟨i0, hi, hz0, hz1, hz2⟩ := info_parts Try.infoW
  go_enter Try.func52, Try.ntmps52
  go_wp2_with (first
    | (go_at_call 57; refine (words_any _ (by omega) (by omega) _).mono ?_; rintro e w' ⟨rfl, rfl⟩)
    | (at_make; refine wpList_make_full _ rfl _ _ 39 rfl (w.heap.size + 1) 68 i0 (.int .u64 0) 1 Try.underS hi hz0 hz1 _ _ _ _ ((n + 31) / 32).toNat rfl rfl (by omega) (by omega) (by rw [hz2]; omega) (by unfold maxLen; omega) (by simp) ?_; intro w1 hown hgrow; have hb := (Below.refl (w.heap.size + 1) _).grown hgrow (by simp) (by intro k hk; cases hk); obtain ⟨q0, q1, z0, z1⟩ := two_kept hb))
  obtain ⟨ho, _⟩ := Ob.made hown
  refine bodyPost_ret (v := .agg #[.int .i64 n, .slice (some ⟨w.heap.size + 1, 0, none⟩) ((n + 31) / 32).toNat ((n + 31) / 32).toNat]) (by simp [results, Try.results52, go_sem, q0, q1]) rfl ⟨w.heap.size + 1, rfl, ?_, by omega, ?_⟩
  · have e1 : (w.alloc (.cells #[.int .i64 0, .slice none 0 0] 41)).heap.size = w.heap.size + 1 := by simp
    rw [e1] at ho
    exact (ho.other (by simp) _).other (by simp) _
  · have hb0 : Below w.heap.size w w1 := (Below.alloc (Below.refl _ _) (Nat.le_refl _) _).trans (hb.mono (by omega))
    exact (hb0.setCell (Nat.le_refl _) _).setCell (Nat.le_refl _) _

theorem blank_at (n : Int) (N : Nat) (h0 : 0 ≤ n) (h1 : n ≤ 4096) (hN : N = ((n + 31) / 32).toNat) (w : World) :
    Calls Try.prog 52 #[.int .i64 n] w fun e w' => ∃ g, e = .returned (.agg #[.int .i64 n, .slice (some ⟨g, 0, none⟩) N N]) ∧
      Ob w' g (List.replicate N 0) ∧ w.heap.size ≤ g ∧ Below w.heap.size w w' := by
  subst hN
  exact blank_any n h0 h1 w

/-- A slice that the call made: nothing, or a block of its own. -/
def Fresh (w w' : World) (ao : Option Addr) (cap : Nat) (L : List Nat) : Prop :=
  (∀ z, z ∈ L → z < 18446744073709551616) ∧ ((ao = none ∧ cap = 0 ∧ L = []) ∨ ∃ g, ao = some ⟨g, 0, none⟩ ∧ cap = L.length ∧ Ob w' g L ∧ w.heap.size ≤ g)

theorem Fresh.rd {w w' : World} {ao : Option Addr} {cap : Nat} {L : List Nat} (h : Fresh w w' ao cap L) : Rd w' ao L := by
  rcases h.2 with ⟨rfl, rfl, rfl⟩ | ⟨g, rfl, rfl, ho, _⟩
  · exact Rd.nil _ _
  · exact ho.rd h.1

def okN (n : Int) : Bool := decide (0 ≤ n ∧ n ≤ 4096)
def zerosN (n : Int) : List Nat := if okN n then List.replicate ((n + 31) / 32).toNat 0 else []

theorem zerosN_lt (n : Int) : ∀ z, z ∈ zerosN n → z < 18446744073709551616 := by
  intro z hz
  unfold zerosN at hz
  split at hz
  · rw [List.mem_replicate] at hz; omega
  · simp at hz

theorem zerosN_yes {n : Int} (h : okN n = true) : zerosN n = List.replicate ((n + 31) / 32).toNat 0 := by unfold zerosN; rw [if_pos h]
theorem zerosN_no {n : Int} (h : okN n = false) : zerosN n = [] := by unfold zerosN; rw [h]; rfl

theorem below_alloc (w : World) (o : Obj) : Below w.heap.size w (w.alloc o) := Below.alloc (Below.refl _ _) (Nat.le_refl _) _
theorem below_then {w w1 : World} {o : Obj} (h : Below (w.alloc o).heap.size (w.alloc o) w1) : Below w.heap.size w w1 := (below_alloc w o).trans (h.mono (by simp))

set_option maxHeartbeats 1000000 in
theorem new_any (n : Int) (w : World) :
    Calls Try.prog 37 #[.int .i64 n] w fun e w' => ∃ ao cap, e = .returned (.tuple #[.agg #[.int .i64 (if okN n then n else 0), .slice ao (zerosN n).length cap], .int .i64 (if okN n then 0 else 2)]) ∧
      Fresh w w' ao cap (zerosN n) ∧ Below w.heap.size w w' := by
  by_cases h : okN n = true
  · have h' : 0 ≤ n ∧ n ≤ 4096 := by simpa [okN] using h
    obtain ⟨h0, h1⟩ := h'
    have hlt := zerosN_lt n
    rw [zerosN_yes h] at hlt
    rw [zerosN_yes h, h]
    clear h
    go_enter Try.func37, Try.ntmps37
    go_wp2_with fail
    refine (blank_any n h0 h1 _).mono ?_
    rintro e w1 ⟨g, rfl, ho, hg, hb⟩
    obtain ⟨q0, q1, z0, z1⟩ := two_kept hb
    have hg' : w.heap.size < g := by have e1 : (w.alloc (.cells #[.int .i64 0, .slice none 0 0] 41)).heap.size = w.heap.size + 1 := by simp
                                     omega
    clear hg
    go_wp2
    refine bodyPost_ret (v := .tuple #[.agg #[.int .i64 n, .slice (some ⟨g, 0, none⟩) ((n + 31) / 32).toNat ((n + 31) / 32).toNat], .int .i64 0]) (by simp [results, Try.results37, go_sem, q0, q1]) rfl ⟨some ⟨g, 0, none⟩, ((n + 31) / 32).toNat, by simp, ⟨hlt, .inr ⟨g, rfl, by simp, ?_, by omega⟩⟩, ?_⟩
    · exact (ho.other (by show g ≠ w.heap.size; omega) _).other (by show g ≠ w.heap.size; omega) _
    · exact ((below_then hb).setCell (Nat.le_refl _) _).setCell (Nat.le_refl _) _
  · have h' : n < 0 ∨ 4096 < n := by simp [okN] at h; omega
    have h2 : okN n = false := by simpa using h
    rw [zerosN_no h2, h2]
    clear h h2
    rcases h' with h' | h'
    all_goals
      go_enter Try.func37, Try.ntmps37
      go_wp2_with fail
      refine bodyPost_ret (v := .tuple #[.agg #[.int .i64 0, .slice none 0 0], .int .i64 2]) (by simp [results, Try.results37, go_sem]) rfl ⟨none, 0, by simp, ⟨by simp, .inl ⟨rfl, rfl, rfl⟩⟩, ?_⟩
      exact below_alloc _ _

/-- Are they two rows of as many cells? -/
def okP (n m : Int) (xs ys : List Nat) : Bool := okR n xs && okR m ys && (n == m)

/-- Block b holds a struct of two cells. -/
def St (w : World) (b : Nat) (x y : Value) : Prop := w.heap[b]? = some (.cells #[x, y] 41 (0, 0))

theorem St.lt {w : World} {b : Nat} {x y : Value} (h : St w b x y) : b < w.heap.size := by
  rcases Nat.lt_or_ge b w.heap.size with k | k
  · exact k
  · unfold St at h; rw [Array.getElem?_eq_none k] at h; cases h

theorem St.cells {w : World} {b : Nat} {x y : Value} (h : St w b x y) : w.cell? ⟨b, 0, none⟩ = some x ∧ w.cell? ⟨b, 1, none⟩ = some y ∧ w.frozen? ⟨b, 0, none⟩ = false ∧ w.frozen? ⟨b, 1, none⟩ = false := by
  refine ⟨?_, ?_, ?_, ?_⟩
  · rw [cell_of_row w _ 0 _ _ _ h]; rfl
  · rw [cell_of_row w _ 1 _ _ _ h]; rfl
  · exact frozen_of_row w _ 0 _ _ h
  · exact frozen_of_row w _ 1 _ _ h

theorem St.new (w : World) (x y : Value) : St (w.alloc (.cells #[x, y] 41)) w.heap.size x y := heap_alloc_new w _
theorem St.alloc {w : World} {b : Nat} {x y : Value} (h : St w b x y) (o : Obj) : St (w.alloc o) b x y := by
  unfold St; rw [Below.heap_alloc _ _ _ h.lt]; exact h
theorem St.up {w w' : World} {b : Nat} {x y : Value} (h : St w b x y) (hb : Below w.heap.size w w') : St w' b x y := by
  unfold St; rw [hb.block b h.lt]; exact h

theorem below_two (w : World) (o o' : Obj) : Below w.heap.size w ((w.alloc o).alloc o') := (below_alloc w o).trans ((below_alloc _ _).mono (by simp))

/-- Two structs by value, laid as new blocks. -/
theorem st_two (w : World) (x y x' y' : Value) : St ((w.alloc (.cells #[x, y] 41)).alloc (.cells #[x', y'] 41)) w.heap.size x y ∧ St ((w.alloc (.cells #[x, y] 41)).alloc (.cells #[x', y'] 41)) (w.heap.size + 1) x' y' := by
  refine ⟨(St.new w x y).alloc _, ?_⟩
  have := St.new (w.alloc (.cells #[x, y] 41)) x' y'
  simpa using this

theorem Below.thn {a b c : World} (h : Below a.heap.size a b) (k : Below b.heap.size b c) : Below a.heap.size a c := h.trans (k.mono h.size)

set_option maxHeartbeats 1000000 in
theorem checkPair_any (n m : Int) (ao bo : Option Addr) (ca cb : Nat) (xs ys : List Nat) (w : World) (h : Rd w ao xs) (g : Rd w bo ys) (hl : xs.length ≤ 17592186043904) (gl : ys.length ≤ 17592186043904) :
    Calls Try.prog 51 #[.agg #[.int .i64 n, .slice ao xs.length ca], .agg #[.int .i64 m, .slice bo ys.length cb]] w fun e w' => e = .returned (.int .i64 (if okP n m xs ys then 0 else 3)) ∧ Below w.heap.size w w' := by
  obtain ⟨s1, s2⟩ := st_two w (.int .i64 n) (.slice ao xs.length ca) (.int .i64 m) (.slice bo ys.length cb)
  have b2 := below_two w (.cells #[.int .i64 n, .slice ao xs.length ca] 41) (.cells #[.int .i64 m, .slice bo ys.length cb] 41)
  have h2 := h.up b2
  have g2 := g.up b2
  clear h g
  obtain ⟨r, hr⟩ : ∃ r : Int, r = (if okP n m xs ys then 0 else 3) := ⟨_, rfl⟩
  rw [← hr]
  have HR : Hid (r = (if okP n m xs ys then 0 else 3)) := hr
  clear hr
  go_enter Try.func51, Try.ntmps51
  go_wp2_with fail
  refine (check_any n ao ca xs _ h2 hl).mono ?_
  rintro e w1 ⟨rfl, hb1⟩
  have s1' := s1.up hb1
  have s2' := s2.up hb1
  have g3 := g2.up hb1
  have b3 := Below.thn b2 hb1
  clear s1 s2 h2 g2 hb1 b2
  cases hx : okR n xs with
  | false =>
    go_wp2
    go_ret
    exact ⟨ret_int (by rw [show r = _ from HR]; unfold okP; rw [hx]; rfl), b3⟩
  | true =>
    obtain ⟨c0, c1, _, _⟩ := s1'.cells
    obtain ⟨d0, d1, _, _⟩ := s2'.cells
    go_wp2_with fail
    refine (check_any m bo cb ys _ g3 gl).mono ?_
    rintro e w2 ⟨rfl, hb2⟩
    have s1 := s1'.up hb2
    have s2 := s2'.up hb2
    have b4 := Below.thn b3 hb2
    clear s1' s2' g3 hb2 b3 c0 c1 d0 d1
    cases hy : okR m ys with
    | false =>
      go_wp2
      go_ret
      exact ⟨ret_int (by rw [show r = _ from HR]; unfold okP; rw [hx, hy]; rfl), b4⟩
    | true =>
      obtain ⟨c0, c1, _, _⟩ := s1.cells
      obtain ⟨d0, d1, _, _⟩ := s2.cells
      clear s1 s2
      by_cases hnm : n = m
      · have e1 : (n == m) = true := by simpa using hnm
        go_wp2
        go_ret
        exact ⟨ret_int (by rw [show r = _ from HR]; unfold okP; rw [hx, hy, e1]; rfl), b4⟩
      · have e1 : (n == m) = false := by simpa using hnm
        go_wp2
        go_ret
        exact ⟨ret_int (by rw [show r = _ from HR]; unfold okP; rw [hx, hy, e1]; rfl), b4⟩
end Go.Proofs.Ytiikkbofcccjfaa
