/-
  Marks read in memory; the walk of awake.
-/
import Derived.Test.YtdimjpakgbebcaaDoorMg
import Derived.Lib.SlBytesConst
namespace Go.Proofs.YtdimjpakgbebcaaDoor
open Go.RowKit
set_option maxRecDepth 100000

def md : Mk := ⟨0, [], 0, 0, 0⟩

/-- The mark m lies at this place. -/
def M4 (w : World) (b o : Nat) (m : Mk) : Prop :=
  w.cell? ⟨b, o, none⟩ = some (.int .i64 m.kind) ∧ w.cell? ⟨b, o + 1, none⟩ = some (.string (bs m.text)) ∧ w.cell? ⟨b, o + 2, none⟩ = some (.complex .f64 (fl m.p) (fl m.q)) ∧ w.cell? ⟨b, o + 3, none⟩ = some (.int .i64 m.at_)

/-- What a slice of marks reads. -/
structure Mr (w : World) (ao : Option Addr) (ms : List Mk) : Prop where
  pl : ms ≠ [] → ∃ b off, ao = some ⟨b, off, none⟩ ∧ ∀ t, t < ms.length → M4 w b (off + t * 4) (ms.getD t md)

theorem Mr.nil (w : World) (ao : Option Addr) : Mr w ao [] := ⟨fun h => absurd rfl h⟩

theorem M4.to {w w' : World} {b o B : Nat} {m : Mk} (h : M4 w b o m) (hl : b < B) (hb : Below B w w') : M4 w' b o m :=
  ⟨(hb.cell hl).trans h.1, (hb.cell hl).trans h.2.1, (hb.cell hl).trans h.2.2.1, (hb.cell hl).trans h.2.2.2⟩
theorem M4.lt {w : World} {b o : Nat} {m : Mk} (h : M4 w b o m) : b < w.heap.size := cell_lt h.1

theorem Mr.up {w w' : World} {ao : Option Addr} {ms : List Mk} (h : Mr w ao ms) (hb : Below w.heap.size w w') : Mr w' ao ms := by
  refine ⟨fun hn => ?_⟩
  obtain ⟨b, off, e, hc⟩ := h.pl hn
  exact ⟨b, off, e, fun t ht => (hc t ht).to (hc t ht).lt hb⟩

theorem Mr.at {w : World} {b off : Nat} {ms : List Mk} (h : Mr w (some ⟨b, off, none⟩) ms) : ∀ t, t < ms.length → M4 w b (off + t * 4) (ms.getD t md) := by
  intro t ht
  obtain ⟨b', off', e', hc⟩ := h.pl (by intro e; rw [e] at ht; simp at ht)
  simp only [Option.some.injEq, Addr.mk.injEq, and_true] at e'
  obtain ⟨rfl, rfl⟩ := e'
  exact hc t ht

theorem mksC_get : ∀ (ms : List Mk) (i j : Nat), i < ms.length → j < 4 → (mksC ms)[i * 4 + j]? = (mkC (ms.getD i md))[j]? := by
  intro ms
  induction ms with
  | nil => intro i j h; simp at h
  | cons m ms ih =>
    intro i j h hj
    have e : mksC (m :: ms) = mkC m ++ mksC ms := rfl
    have hl : (mkC m).length = 4 := rfl
    rw [e]
    cases i with
    | zero => rw [Nat.zero_mul, Nat.zero_add, List.getElem?_append_left (by omega)]; rfl
    | succ i =>
      rw [List.getElem?_append_right (by omega), hl, show (i + 1) * 4 + j - 4 = i * 4 + j by omega, ih i j (by simpa using h) hj]
      rfl

theorem owns_cell {w : World} {B g c n : Nat} {xs : List Value} (h : w.ownsRow B 34 4 (.slice (some ⟨g, 0, none⟩) n c) n xs) : ∀ j v, xs[j]? = some v → w.cell? ⟨g, j, none⟩ = some v := by
  intro j v hj
  rcases h.2 with ⟨h', _⟩ | ⟨g', cap', cur, h', hb, hg, _, _, hs, htake⟩
  · simp at h'
  · simp only [Value.slice.injEq, Option.some.injEq, Addr.mk.injEq, and_true, true_and] at h'
    obtain ⟨rfl, rfl⟩ := h'
    rw [cell_of_row w g j _ _ _ hg]
    have hjl : j < xs.length := (List.getElem?_eq_some_iff.1 hj).1
    rw [h.1] at hjl
    have e : cur[j]? = (cur.toList.take (n * 4))[j]? := by rw [List.getElem?_take, if_pos hjl]; simp
    rw [e, htake, hj]

theorem Mr.of {w : World} {B g c : Nat} {ms : List Mk} (h : w.ownsRow B 34 4 (.slice (some ⟨g, 0, none⟩) ms.length c) ms.length (mksC ms)) : Mr w (some ⟨g, 0, none⟩) ms := by
  refine ⟨fun _ => ⟨g, 0, rfl, fun t ht => ?_⟩⟩
  have hc := owns_cell h
  rw [Nat.zero_add]
  refine ⟨hc _ _ ?_, hc _ _ ?_, hc _ _ ?_, hc _ _ ?_⟩
  · rw [show t * 4 = t * 4 + 0 from rfl, mksC_get ms t 0 ht (by omega)]; rfl
  · rw [mksC_get ms t 1 ht (by omega)]; rfl
  · rw [mksC_get ms t 2 ht (by omega)]; rfl
  · rw [mksC_get ms t 3 ht (by omega)]; rfl

theorem owns_ge {w : World} {B g c n : Nat} {xs : List Value} (h : w.ownsRow B 34 4 (.slice (some ⟨g, 0, none⟩) n c) n xs) : B ≤ g := by
  rcases h.2 with ⟨h', _⟩ | ⟨g', cap', cur, h', hb, _⟩
  · simp at h'
  · simp only [Value.slice.injEq, Option.some.injEq, Addr.mk.injEq, and_true, true_and] at h'
    omega

def tx1 : List UInt8 := [97, 45, 62, 51, 105, 32, 35, 32, 120]
def tx2 : List UInt8 := [120, 32, 48, 48, 55]
def ms1 : List Mk := [⟨0, [97], 0, 0, 0⟩, ⟨3, [45, 62], 0, 0, 1⟩, ⟨2, [51, 105], 0, 3, 3⟩, ⟨4, [], 0, 0, 9⟩]

theorem cut1 : cut rdN tx1 0 = .ok ms1 := by kernel_rfl
theorem cut2 : cut rdN tx2 0 = .bad 2 := by kernel_rfl
theorem fl3 : fl 3 = 4613937818241073152 := by kernel_rfl

/-- Bytes just laid. -/
theorem Bd.new (w : World) (l : List UInt8) (t : TypeId) (fz : Nat × Nat) : Bd (w.alloc (.cells (l.map fun c => Value.int .u8 (c.toNat : Int)).toArray t fz)) (some ⟨w.heap.size, 0, none⟩) l := by
  refine ⟨fun _ => ⟨w.heap.size, 0, rfl, fun j hj => ?_⟩⟩
  rw [Nat.zero_add, cell_of_row _ _ j _ _ _ (heap_alloc_new w _)]
  simp [List.getD_eq_getElem?_getD, hj]

theorem env_alloc {w : World} (hE : Env w) (o : Obj) : Env (w.alloc o) := env_keep hE (below_alloc _ _)
theorem Gl.alloc {w : World} (hG : Gl w) (o : Obj) : Gl (w.alloc o) := hG.up (below_alloc _ _)

set_option maxHeartbeats 2000000 in
theorem awake_any (w : World) (hG : Gl w) (hE : Env w) :
    Calls Tryd.prog 5 #[] w fun e w' => e = .returned (.bool true) ∧ Below w.heap.size w w' := by
  have m1 := marks_any (some ⟨w.heap.size, 0, none⟩) 9 tx1 (by decide) (by decide) _ (hG.alloc _) (env_alloc hE _) (Bd.new w tx1 5 (9, 10))
  rw [cut1] at m1
  have hcs := Lib.run_convert_bytes_const (P := Tryd.prog) w 22 5 #[.int .u8 97, .int .u8 45, .int .u8 62, .int .u8 51, .int .u8 105, .int .u8 32, .int .u8 35, .int .u8 32, .int .u8 120] 9 9 (by kernel_rfl) (by kernel_rfl)
  go_enter Tryd.func5, Tryd.ntmps5
  go_wp2_with fail
  refine m1.mono ?_
  rintro e w1 ⟨⟨g, c, rfl, hown⟩, hb1⟩
  have hB1 := Below.thn (below_alloc w _) hb1
  have hr1 := Mr.of hown
  have hg : g < w1.heap.size := (hr1.at 0 (by decide)).lt
  clear m1 hb1 hown hcs
  have hf1 := S2.new w1 (.int .i64 0) (.int .i64 0)
  have hcs := Lib.run_convert_bytes_const (P := Tryd.prog) (w1.alloc (.cells #[.int .i64 0, .int .i64 0] 27)) 22 5 #[.int .u8 120, .int .u8 32, .int .u8 48, .int .u8 48, .int .u8 55] 5 5 (by kernel_rfl) (by kernel_rfl)
  have hes : (w1.alloc (.cells #[.int .i64 0, .int .i64 0] 27)).heap.size = w1.heap.size + 1 := by simp
  have m2 := marks_any (some ⟨w1.heap.size + 1, 0, none⟩) 5 tx2 (by decide) (by decide) _ (((hG.up hB1).alloc (.cells #[.int .i64 0, .int .i64 0] 27)).alloc _) (env_alloc (env_alloc (env_keep hE hB1) (.cells #[.int .i64 0, .int .i64 0] 27)) _) (by have := Bd.new (w1.alloc (.cells #[.int .i64 0, .int .i64 0] 27)) tx2 5 (5, 6); rw [hes] at this; exact this)
  rw [cut2] at m2
  rw [hes] at hcs
  go_wp2_with fail
  refine m2.mono ?_
  rintro e w2 ⟨rfl, hb2⟩
  have hB2 := Below.thn hB1 (Below.thn (below_two w1 (.cells #[.int .i64 0, .int .i64 0] 27) _) hb2)
  have hr2 := hr1.up (Below.thn (below_two w1 (.cells #[.int .i64 0, .int .i64 0] 27) _) hb2)
  have hf2 := hf1.to hf1.lt (Below.thn (below_alloc _ _) hb2)
  clear m2 hcs hb2 hr1 hf1
  have hG2 := hG.up hB2
  have hr3 := hr2.up (below_alloc w2 (.cells #[.int .i64 20, .int .i64 2] 27))
  have hf3 := hf2.to hf2.lt (below_alloc w2 (.cells #[.int .i64 20, .int .i64 2] 27))
  obtain ⟨_, d1, _, _⟩ := hr3.at 1 (by decide)
  obtain ⟨_, _, d2, _⟩ := hr3.at 2 (by decide)
  obtain ⟨d3, _, _, d4⟩ := hr3.at 3 (by decide)
  have rv := reserved_any [110, 105, 108] (w2.alloc (.cells #[.int .i64 20, .int .i64 2] 27)) (hG2.alloc _)
  have hB3 := Below.thn hB2 (below_alloc w2 (.cells #[.int .i64 20, .int .i64 2] 27))
  obtain ⟨f0, f1, _, _⟩ := hf3.cells
  clear hr2 hf2 hr3 hf3 hG hE
  simp only [Nat.zero_add, Nat.one_mul, Nat.reduceMul, Nat.reduceAdd] at d1 d2 d3 d4
  rw [show (ms1.getD 1 md).text = [45, 62] from rfl] at d1
  rw [show (ms1.getD 2 md).p = 0 from rfl, show (ms1.getD 2 md).q = 3 from rfl, fl_zero, fl3] at d2
  rw [show (ms1.getD 3 md).kind = 4 from rfl] at d3
  rw [show (ms1.getD 3 md).at_ = 9 from rfl] at d4
  rw [show ms1.length = 4 from rfl]
  have hst : ((bs [45, 62]).toList == [45, 62]) = true := by rw [bs_toList]; rfl
  go_wp2_with fail
  refine rv.mono ?_
  rintro e w3 ⟨rfl, hw3⟩
  rw [hw3]
  clear hw3
  go_wp2_with fail
  go_ret
  exact ⟨rfl, hB3⟩
end Go.Proofs.YtdimjpakgbebcaaDoor
