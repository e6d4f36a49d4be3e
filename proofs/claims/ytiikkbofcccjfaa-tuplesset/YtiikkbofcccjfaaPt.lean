/-
  The walk of Put.
-/
import Derived.Test.YtiikkbofcccjfaaGt
import Derived.Laws.CopyOwn
import Derived.Deep.RegionHeld
namespace Go.Proofs.Ytiikkbofcccjfaa
open Go.RowKit
open RowsM

def okV (v : Int) : Bool := decide (0 ≤ v ∧ v ≤ 3)
def okPut (n : Int) (zs : List Nat) (i v : Int) : Bool := okR n zs && inR n i && okV v
/-- The word that Put writes. -/
def putW (x : Nat) (j v : Nat) : Nat := pickN ((3 <<< (2 * j)) % 18446744073709551616) ((v <<< (2 * j)) % 18446744073709551616) x
def putL (n : Int) (zs : List Nat) (i v : Int) : List Nat := if okPut n zs i v then zs.set (i / 32).toNat (putW (zs.getD (i / 32).toNat 0) (i % 32).toNat v.toNat) else []
def putE (n : Int) (zs : List Nat) (i v : Int) : Int := if okR n zs then if inR n i && okV v then 0 else 2 else 3

theorem putW_lt {x : Nat} (hx : x < 18446744073709551616) (j v : Nat) : putW x j v < 18446744073709551616 := pick_lt (Nat.mod_lt _ (by decide)) hx

theorem shl_int (v j : Int) (h : 0 ≤ v) (hj : 0 ≤ j) : IntKind.u64.wrap (v * 2 ^ (2 * j).toNat) = (((v.toNat <<< (2 * j.toNat)) % 18446744073709551616 : Nat) : Int) := by
  have e : (2 * j).toNat = 2 * j.toNat := by omega
  rw [IntKind.wrap_u64, e, Nat.shiftLeft_eq, Int.natCast_emod, Int.natCast_mul, Int.natCast_pow, Int.toNat_of_nonneg h]
  rfl

theorem Try.sizeW : (Try.prog.info? 68).map (·.size) = some 1 := by kernel_rfl

theorem addr_add (b off j : Nat) : (⟨b, off, none⟩ : Addr).add j = ⟨b, off + j, none⟩ := by
  unfold Addr.add
  split
  · rename_i h; subst h; rfl
  · rfl

theorem src_cells {w : World} {zs : List Nat} {b off : Nat} (hc : ∀ t, t < zs.length → w.cell? ⟨b, off + t, none⟩ = some (.int .u64 (zs.getD t 0 : Nat))) :
    ∀ j u, (zs.map fun z : Nat => Value.int .u64 z)[j]? = some u → w.cell? ((⟨b, off, none⟩ : Addr).add j) = some u := by
  intro j u hj
  have hjl : j < zs.length := by
    rcases Nat.lt_or_ge j zs.length with h | h
    · exact h
    · rw [List.getElem?_eq_none (by simpa using h)] at hj; cases hj
  rw [List.getElem?_map, List.getElem?_eq_getElem hjl] at hj
  simp only [Option.map_some, Option.some.injEq] at hj
  subst hj
  have := hc j hjl
  rw [List.getD_eq_getElem?_getD, List.getElem?_eq_getElem hjl] at this
  rw [addr_add]
  exact this

theorem one_cells (zs : List Nat) : ∀ u, u ∈ (zs.map fun z : Nat => Value.int .u64 z) → u.oneCell' = true := by
  intro u hu
  rw [List.mem_map] at hu
  obtain ⟨z, _, rfl⟩ := hu
  rfl

theorem row_whole (zs : List Nat) : (((List.replicate zs.length (0 : Nat)).map fun z : Nat => Value.int .u64 z).toArray.toList.take 0 ++ (zs.map fun z : Nat => Value.int .u64 z) ++ ((List.replicate zs.length (0 : Nat)).map fun z : Nat => Value.int .u64 z).toArray.toList.drop (0 + (zs.map fun z : Nat => Value.int .u64 z).length)).toArray = (zs.map fun z : Nat => Value.int .u64 z).toArray := by
  rw [List.take_zero, List.nil_append, Nat.zero_add, List.length_map, List.drop_of_length_le (by simp), List.append_nil]

theorem ob_setRow {w : World} {g : Nat} {xs : List Nat} (h : Ob w g xs) (zs : List Nat) : Ob (w.setRow g (zs.map fun z : Nat => Value.int .u64 z).toArray) g zs := setRow_heap w g _ _ _ _ h
theorem oth_setRow (g : Nat) (w : World) (zs : List Nat) : Oth g w (w.setRow g (zs.map fun z : Nat => Value.int .u64 z).toArray) := ⟨rfl, rfl, rfl, by simp [World.setRow], fun b hb => setRow_other w g b _ (by omega)⟩

set_option maxHeartbeats 2000000 in
theorem put_any (n : Int) (ao : Option Addr) (ca : Nat) (zs : List Nat) (i v : Int) (w : World) (h : Rd w ao zs) (hl : zs.length ≤ 17592186043904) :
    Calls Try.prog 47 #[.agg #[.int .i64 n, .slice ao zs.length ca], .int .i64 i, .int .i64 v] w fun e w' =>
      ∃ so cap, e = .returned (.tuple #[.agg #[.int .i64 (if okPut n zs i v then n else 0), .slice so (putL n zs i v).length cap], .int .i64 (putE n zs i v)]) ∧ Fresh w w' so cap (putL n zs i v) ∧ Below w.heap.size w w' := by
  obtain ⟨s1, s3⟩ := st_two w (.int .i64 n) (.slice ao zs.length ca) (.int .i64 0) (.slice none 0 0)
  have b2 := below_two w (.cells #[.int .i64 n, .slice ao zs.length ca] 41) (.cells #[.int .i64 0, .slice none 0 0] 41)
  have h2 := h.up b2
  have hcp := check_any n ao ca zs _ h2 hl
  cases hx : okR n zs with
  | false =>
    rw [hx] at hcp
    simp only [Bool.false_eq_true, if_false] at hcp
    have hp : okPut n zs i v = false := by unfold okPut; rw [hx]; rfl
    have hv : putL n zs i v = [] := by unfold putL; rw [hp]; rfl
    have he : putE n zs i v = 3 := by unfold putE; rw [hx]; rfl
    rw [hv, he, hp]
    go_enter Try.func47, Try.ntmps47
    go_wp2_with fail
    refine hcp.mono ?_
    rintro e w1 ⟨rfl, hb1⟩
    have b3 := Below.thn b2 hb1
    obtain ⟨q0, q1, q2, q3⟩ := (s3.up hb1).cells
    clear s1 s3 h2 hcp h
    go_wp2
    refine bodyPost_ret (v := .tuple #[.agg #[.int .i64 0, .slice none 0 0], .int .i64 3]) (by simp [results, Try.results47, go_sem, q0, q1]) rfl ⟨none, 0, by simp, ⟨by simp, .inl ⟨rfl, rfl, rfl⟩⟩, ?_⟩
    exact (b3.setCell (by show w.heap.size ≤ w.heap.size + 1; omega) _).setCell (by show w.heap.size ≤ w.heap.size + 1; omega) _
  | true =>
    rw [hx] at hcp
    simp only [if_true] at hcp
    cases hi : inR n i && okV v with
    | false =>
      have hp : okPut n zs i v = false := by unfold okPut; rw [Bool.and_assoc, hi, Bool.and_false]
      have hv : putL n zs i v = [] := by unfold putL; rw [hp]; rfl
      have he : putE n zs i v = 2 := by unfold putE; rw [hx, hi]; rfl
      rw [hv, he, hp]
      go_enter Try.func47, Try.ntmps47
      go_wp2_with fail
      refine hcp.mono ?_
      rintro e w1 ⟨rfl, hb1⟩
      have b3 := Below.thn b2 hb1
      obtain ⟨c0, c1, _, _⟩ := (s1.up hb1).cells
      obtain ⟨q0, q1, q2, q3⟩ := (s3.up hb1).cells
      clear s1 s3 h2 hcp h
      by_cases hn : i < 0
      · go_wp2
        refine bodyPost_ret (v := .tuple #[.agg #[.int .i64 0, .slice none 0 0], .int .i64 2]) (by simp [results, Try.results47, go_sem, q0, q1]) rfl ⟨none, 0, by simp, ⟨by simp, .inl ⟨rfl, rfl, rfl⟩⟩, ?_⟩
        exact (b3.setCell (by show w.heap.size ≤ w.heap.size + 1; omega) _).setCell (by show w.heap.size ≤ w.heap.size + 1; omega) _
      · by_cases hn2 : n ≤ i
        · go_wp2
          refine bodyPost_ret (v := .tuple #[.agg #[.int .i64 0, .slice none 0 0], .int .i64 2]) (by simp [results, Try.results47, go_sem, q0, q1]) rfl ⟨none, 0, by simp, ⟨by simp, .inl ⟨rfl, rfl, rfl⟩⟩, ?_⟩
          exact (b3.setCell (by show w.heap.size ≤ w.heap.size + 1; omega) _).setCell (by show w.heap.size ≤ w.heap.size + 1; omega) _
        · have hic := isCell_any v
          have hvf : decide (0 ≤ v ∧ v ≤ 3) = false := by
            simp only [inR, okV, ← Bool.decide_and, decide_eq_false_iff_not] at hi ⊢
            omega
          rw [hvf] at hic
          go_wp2_with (go_at_call 58; refine (hic _).mono ?_; rintro e w' ⟨rfl, rfl⟩)
          refine bodyPost_ret (v := .tuple #[.agg #[.int .i64 0, .slice none 0 0], .int .i64 2]) (by simp [results, Try.results47, go_sem, q0, q1]) rfl ⟨none, 0, by simp, ⟨by simp, .inl ⟨rfl, rfl, rfl⟩⟩, ?_⟩
          exact (b3.setCell (by show w.heap.size ≤ w.heap.size + 1; omega) _).setCell (by show w.heap.size ≤ w.heap.size + 1; omega) _
    | true =>
      have hp : okPut n zs i v = true := by unfold okPut; rw [Bool.and_assoc, hi, hx]; rfl
      have hv : putL n zs i v = zs.set (i / 32).toNat (putW (zs.getD (i / 32).toNat 0) (i % 32).toNat v.toNat) := by unfold putL; rw [hp]; rfl
      have he : putE n zs i v = 0 := by unfold putE; rw [hx, hi]; rfl
      rw [hv, he, hp]
      have hi' : (0 ≤ i ∧ i < n) ∧ (0 ≤ v ∧ v ≤ 3) := by simpa [inR, okV] using hi
      obtain ⟨⟨i0, i1⟩, v0, v3⟩ := hi'
      have hn : n ≤ 4096 ∧ (zs.length : Int) = (n + 31) / 32 := by
        simp only [okR, decide_eq_true_eq] at hx; exact ⟨hx.2.1, hx.2.2.1⟩
      obtain ⟨n1, hln⟩ := hn
      have n0 : 0 ≤ n := by omega
      have HN : Hid (zs.length = ((n + 31) / 32).toNat) := by show _ = _; omega
      have hz : zs ≠ [] := by rintro rfl; simp at hln; omega
      have hq : (i / 32).toNat < zs.length := by omega
      have hq2 : i / 32 < (zs.length : Int) := by omega
      obtain ⟨x, hxe⟩ : ∃ x, x = zs.getD (i / 32).toNat 0 := ⟨_, rfl⟩
      have hx0 := h.get_lt (i / 32).toNat
      have hlt := h.lt
      obtain ⟨b, off, rfl, _⟩ := h.pl hz
      have hblk := h.lt_block hz
      rw [← hxe] at hx0
      rw [← hxe]
      have HX : Hid (x = zs.getD (i / 32).toNat 0) := hxe
      have hic := isCell_any v
      have hvt : decide (0 ≤ v ∧ v ≤ 3) = true := by simp; omega
      rw [hvt] at hic
      clear h hln hvt hxe hv he hp
      obtain ⟨y, hy⟩ : ∃ y, y = putW x (i % 32).toNat v.toNat := ⟨_, rfl⟩
      rw [← hy]
      have hyl : y < 18446744073709551616 := by rw [hy]; exact putW_lt hx0 _ _
      have HY : Hid (y = putW x (i % 32).toNat v.toNat) := hy
      clear hy
      go_enter Try.func47, Try.ntmps47
      go_wp2_with fail
      refine hcp.mono ?_
      rintro e w1 ⟨rfl, hb1⟩
      have b3 := Below.thn b2 hb1
      have s1 := s1.up hb1
      have s3 := s3.up hb1
      have h3 := h2.up hb1
      obtain ⟨c0, c1, _, _⟩ := s1.cells
      clear h2 hcp b2 hb1
      go_wp2_with (first
        | (go_at_call 58; refine (hic _).mono ?_; rintro e w' ⟨rfl, rfl⟩)
        | fail)
      refine (blank_at n zs.length n0 n1 HN _).mono ?_
      rintro e w2 ⟨G, rfl, ho, hg, hb2⟩
      have hG : w.heap.size + 1 < G := by have := s3.lt; omega
      have hG2 : G < w2.heap.size := ho.lt
      have b4 := Below.thn b3 hb2
      have s1 := (s1.up hb2).alloc (.cells #[.int .i64 n, .slice (some ⟨G, 0, none⟩) zs.length zs.length] 41)
      have s3 := (s3.up hb2).alloc (.cells #[.int .i64 n, .slice (some ⟨G, 0, none⟩) zs.length zs.length] 41)
      have s4 := St.new w2 (.int .i64 n) (.slice (some ⟨G, 0, none⟩) zs.length zs.length)
      have h5 := (h3.up hb2).alloc (.cells #[.int .i64 n, .slice (some ⟨G, 0, none⟩) zs.length zs.length] 41)
      have ho := ho.alloc (.cells #[.int .i64 n, .slice (some ⟨G, 0, none⟩) zs.length zs.length] 41)
      have b5 := Below.thn b4 (below_alloc _ (.cells #[.int .i64 n, .slice (some ⟨G, 0, none⟩) zs.length zs.length] 41))
      clear h3 b3 hb2 c0 c1 b4 hg
      obtain ⟨c0, c1, _, _⟩ := s1.cells
      obtain ⟨o0, o1, _, _⟩ := s4.cells
      obtain ⟨b', off', e', hc⟩ := h5.pl hz
      simp only [Option.some.injEq, Addr.mk.injEq, and_true] at e'
      obtain ⟨rfl, rfl⟩ := e'
      have hrun := run_copy_row (P := Try.prog) _ 39 39 3 68 G 0 zs.length zs.length ⟨b, off, none⟩ zs.length ca _ _ (zs.map fun z : Nat => Value.int .u64 z) Try.underS Try.sizeW ho (by simp) (src_cells hc) (by simp) (one_cells zs)
      rw [row_whole zs] at hrun
      have hset := ob_setRow ho zs
      have hoth := oth_setRow G (w2.alloc (.cells #[.int .i64 n, .slice (some ⟨G, 0, none⟩) zs.length zs.length] 41)) zs
      have s1 := hoth.st s1 (by omega)
      have s3 := hoth.st s3 (by omega)
      have s4 := hoth.st s4 (by omega)
      have b6 := hoth.below b5 (by omega)
      have hcq := (hoth.cell (a := ⟨b, off + (i / 32).toNat, none⟩) (by show b ≠ G; omega)).trans (hc _ hq)
      rw [← show x = _ from HX] at hcq
      clear hoth b5 ho hc h5
      obtain ⟨c0', c1', _, _⟩ := s1.cells
      obtain ⟨o0', o1', _, _⟩ := s4.cells
      have gk := hset.cell hq
      have gf := hset.free (i / 32).toNat
      go_wp2
      generalize ((w2.alloc (.cells #[.int .i64 n, .slice (some ⟨G, 0, none⟩) zs.length zs.length] 41)).setRow G (zs.map fun z : Nat => Value.int .u64 z).toArray) = W4 at *
      clear hrun c0 c1 o0 o1
      have hpk : ∀ w, Calls Try.prog 53 #[.int .u64 (IntKind.u64.wrap (3 * 2 ^ (2 * (i % 32)).toNat)), .int .u64 (IntKind.u64.wrap (IntKind.u64.wrap v * 2 ^ (2 * (i % 32)).toNat)), .int .u64 x] w fun e w' => e = .returned (.int .u64 y) ∧ w' = w := by
        intro w
        have e1 : IntKind.u64.wrap v = v := by rw [IntKind.wrap_u64]; omega
        rw [e1, shl_int 3 (i % 32) (by omega) (by omega), shl_int v (i % 32) v0 (by omega), show y = _ from HY]
        exact pick_any _ _ x w (Nat.mod_lt _ (by decide)) (Nat.mod_lt _ (by decide)) hx0
      have hq3 : 0 ≤ i / 32 := by omega
      have hne1 : G ≠ w2.heap.size := by omega
      have hne2 : G ≠ w.heap.size := by omega
      have hne3 : G ≠ b := by omega
      have hq4 : i.tdiv 32 = i / 32 := Int.tdiv_eq_ediv_of_nonneg i0
      have hq5 : IntKind.i64.wrap (i / 32) = i / 32 := by rw [IntKind.wrap_i64]; omega
      go_region_held (fun w' => w'.cell? ⟨w2.heap.size, 1, none⟩ = some (.slice (some ⟨G, 0, none⟩) zs.length zs.length) ∧ w'.cell? ⟨w.heap.size, 1, none⟩ = some (.slice (some ⟨b, off, none⟩) zs.length ca) ∧ w'.cell? ⟨b, off + (i / 32).toNat, none⟩ = some (.int .u64 x)) (go_keep) (first
        | (go_at_call 61; refine (shift_any _ (by omega) (by omega) _).mono ?_; rintro e w' ⟨rfl, rfl⟩)
        | (go_at_call 53; refine (hpk _).mono ?_; rintro e w' ⟨rfl, rfl⟩))
      have hset5 := (hset.set (i / 32).toNat y).drew
      have hot5 := ((Oth.refl G W4).set (i / 32).toNat (.int .u64 y)).drew
      obtain ⟨q0, q1, q2, q3⟩ := (hot5.st s3 (by omega)).cells
      obtain ⟨p0, p1, p2, p3⟩ := (hot5.st s4 (by omega)).cells
      have b7 := hot5.below b6 (by omega)
      have hzl : ∀ z, z ∈ zs.set (i / 32).toNat y → z < 18446744073709551616 := by
        intro z hz
        rcases List.mem_or_eq_of_mem_set hz with h | h
        · exact hlt z h
        · rw [h]; exact hyl
      have hsl : (zs.set (i / 32).toNat y).length = zs.length := List.length_set
      generalize (W4.setCell ⟨G, (i / 32).toNat, none⟩ (.int .u64 y)).drew = W5 at *
      go_wp2
      refine bodyPost_ret (v := .tuple #[.agg #[.int .i64 n, .slice (some ⟨G, 0, none⟩) zs.length zs.length], .int .i64 0]) (by simp [results, Try.results47, go_sem, q0, q1]) rfl ⟨some ⟨G, 0, none⟩, zs.length, by simp, ⟨hzl, .inr ⟨G, rfl, hsl.symm, ?_, by omega⟩⟩, ?_⟩
      · exact (hset5.other (by show G ≠ w.heap.size + 1; omega) _).other (by show G ≠ w.heap.size + 1; omega) _
      · exact (b7.setCell (by show w.heap.size ≤ w.heap.size + 1; omega) _).setCell (by show w.heap.size ≤ w.heap.size + 1; omega) _
end Go.Proofs.Ytiikkbofcccjfaa
