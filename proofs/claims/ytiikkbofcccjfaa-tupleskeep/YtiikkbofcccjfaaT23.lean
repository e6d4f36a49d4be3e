/-
  No call changes a table that it was handed: the walk of TuplesKeep.
-/
import Derived.Test.YtiikkbofcccjfaaT22
import Derived.Deep.Cut
namespace Go.Proofs.Ytiikkbofcccjfaa
open Go.RowKit
open Go.Lib
open RowsM
set_option maxRecDepth 100000

theorem rd_one (w : World) (z : Nat) (hz : z < 18446744073709551616) : Rd (w.alloc (.cells #[.int .u64 (z : Nat)] 68)) (some ⟨w.heap.size, 0, none⟩) [z] :=
  ⟨fun y hy => by simp at hy; omega, fun _ => ⟨w.heap.size, 0, rfl, fun t ht => by
    obtain rfl : t = 0 := by simpa using ht
    rw [cell_of_row _ _ _ _ _ _ (heap_alloc_new w _)]
    rfl⟩⟩
theorem own_empty (w : World) (T : TypeId) : (w.alloc (.cells #[] T)).ownsRow w.heap.size T 1 (.slice (some ⟨w.heap.size, 0, none⟩) 0 0) 0 [] := ⟨rfl, .inr ⟨_, 0, #[], rfl, Nat.le_refl _, heap_alloc_new w _, Nat.le_refl _, by unfold maxLen; omega, rfl, rfl⟩⟩
theorem s4_last {w : World} {b : Nat} {x y z u : Value} (h : S4 w b x y z u) (v : Value) : S4 (w.setCell ⟨b, 3, none⟩ v) b x y z v := by
  unfold S4
  rw [heap_setCell_same _ b 3 _ _ _ h]
  rfl

/-- Two rows made one behind the other: a copy with one more behind it. -/
theorem pts_full (w : World) (co : Option Addr) (cc : Nat) (ps : List Int) (g : Iz w co ps) (gl : ps.length ≤ 17592186043904) (gc : co = none → cc = 0) :
    ∃ v1 w1 G cG w2, (Builtin.append_ #[23, 23] 23 #[.slice (some ⟨w.heap.size, 0, none⟩) 0 0, .slice co ps.length cc]).run Try.prog (w.alloc (.cells #[] 54)) = .ok v1 w1 ∧
      (Builtin.append_ #[23, 23] 23 #[v1, .slice (some ⟨w1.heap.size, 0, none⟩) 1 1]).run Try.prog (w1.alloc (.cells #[.int .i64 71] 54)) = .ok (.slice (some ⟨G, 0, none⟩) (ps.length + 1) cG) w2 ∧
      IzL w2 (some ⟨G, 0, none⟩) (ps ++ [71]) w.heap.size w2.heap.size ∧ ps.length + 1 ≤ cG ∧ Below w.heap.size w w2 := by
  have hb0 := below_alloc w (.cells #[] 54)
  obtain ⟨v1, w1, hr1, ho1, hg1⟩ := nums_app Try.infoP Try.underP (w.alloc (.cells #[] 54)) w.heap.size (.slice (some ⟨w.heap.size, 0, none⟩) 0 0) co cc [] ps (own_empty w _) (by simp) (g.up hb0) gc (by simp; omega)
  have hb1 : Below w.heap.size w w1 := hb0.grown hg1 (by simp) (by intro k hk; simp [Value.ownBlock] at hk; omega)
  simp only [List.nil_append] at ho1
  have hz1 := hb1.size
  have hb2 := below_alloc w1 (.cells #[.int .i64 71] 54)
  obtain ⟨v2, w2, hr2, ho2, hg2⟩ := nums_app Try.infoP Try.underP (w1.alloc (.cells #[.int .i64 71] 54)) w.heap.size v1 (some ⟨w1.heap.size, 0, none⟩) 1 ps [71] (owns_up ho1 hb2) (by simp; omega) (iz_made w1 _ [71]) (by intro h; cases h) (by simp; omega)
  have hb3 : Below w.heap.size w w2 := (hb1.trans (hb2.mono hz1)).grown hg2 (by simp; omega) (own_low (owns_up ho1 hb2))
  obtain ⟨G, cG, rfl, hi, hc, hG1, hG2⟩ := own_ints ho2 (by simp)
  simp only [List.length_append, List.length_singleton] at hr2 hc
  refine ⟨v1, w1, G, cG, w2, hr1, hr2, ⟨hi, fun _ b off e => ?_⟩, hc, hb3⟩
  simp only [Option.some.injEq, Addr.mk.injEq] at e
  omega
theorem words_full (w : World) (co : Option Addr) (cc : Nat) (xs : List Nat) (g : Rd w co xs) (gl : xs.length ≤ 17592186043904) (gc : co = none → cc = 0) :
    ∃ v1 w1 G cG w2, (Builtin.append_ #[39, 39] 39 #[.slice (some ⟨w.heap.size, 0, none⟩) 0 0, .slice co xs.length cc]).run Try.prog (w.alloc (.cells #[] 68)) = .ok v1 w1 ∧ Below w.heap.size w w1 ∧
      (Builtin.append_ #[39, 39] 39 #[v1, .slice (some ⟨w1.heap.size, 0, none⟩) 1 1]).run Try.prog (w1.alloc (.cells #[.int .u64 72] 68)) = .ok (.slice (some ⟨G, 0, none⟩) (xs.length + 1) cG) w2 ∧
      RdL w2 (some ⟨G, 0, none⟩) (xs ++ [72]) w.heap.size w2.heap.size ∧ xs.length + 1 ≤ cG ∧ Below w.heap.size w w2 := by
  have hb0 := below_alloc w (.cells #[] 68)
  obtain ⟨v1, w1, hr1, ho1, hg1⟩ := words_app (w.alloc (.cells #[] 68)) w.heap.size (.slice (some ⟨w.heap.size, 0, none⟩) 0 0) co cc [] xs (own_empty w _) (by simp) (g.up hb0) gc (by simp; omega)
  have hb1 : Below w.heap.size w w1 := hb0.grown hg1 (by simp) (by intro k hk; simp [Value.ownBlock] at hk; omega)
  simp only [List.nil_append] at ho1
  have hz1 := hb1.size
  have hb2 := below_alloc w1 (.cells #[.int .u64 72] 68)
  obtain ⟨v2, w2, hr2, ho2, hg2⟩ := words_app (w1.alloc (.cells #[.int .u64 72] 68)) w.heap.size v1 (some ⟨w1.heap.size, 0, none⟩) 1 xs [72] (owns_up ho1 hb2) (by simp; omega) (rd_one w1 72 (by decide)) (by intro h; cases h) (by simp; omega)
  have hb3 : Below w.heap.size w w2 := (hb1.trans (hb2.mono hz1)).grown hg2 (by simp; omega) (own_low (owns_up ho1 hb2))
  obtain ⟨G, cG, rfl, hi, hc, hG1, hG2⟩ := own_words ho2 (by intro z hz; rw [List.mem_append] at hz; rcases hz with hz | hz; exact g.lt z hz; simp at hz; omega) (by simp)
  simp only [List.length_append, List.length_singleton] at hr2 hc
  refine ⟨v1, w1, G, cG, w2, hr1, hb1, hr2, ⟨hi, fun _ b off e => ?_⟩, hc, hb3⟩
  simp only [Option.some.injEq, Addr.mk.injEq] at e
  omega
end Go.Proofs.Ytiikkbofcccjfaa
