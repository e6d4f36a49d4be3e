/-
  The walk of fathomlaw04.awake.
-/
import Derived.Test.YtkonkplalgoekaaGreatDoorOh
import Derived.Lib.SlBytesConst
namespace Go.Proofs.YtkonkplalgoekaaGreatDoor
open Go.RowKit
set_option maxRecDepth 100000

def tA : List UInt8 := [102, 40, 120, 32, 78, 41, 58, 78, 61, 120, 43, 49, 59]
def tB : List UInt8 := [102, 40, 120, 41, 58, 78, 61, 120, 59]
def msA : List Mk := [⟨0, [102], 0, 0, 0⟩, ⟨3, [40], 0, 0, 1⟩, ⟨0, [120], 0, 0, 2⟩, ⟨1, [78], 0, 0, 4⟩, ⟨3, [41], 0, 0, 5⟩, ⟨3, [58], 0, 0, 6⟩, ⟨1, [78], 0, 0, 7⟩, ⟨3, [61], 0, 0, 8⟩, ⟨0, [120], 0, 0, 9⟩, ⟨3, [43], 0, 0, 10⟩, ⟨2, [49], 1, 0, 11⟩, ⟨3, [59], 0, 0, 12⟩, ⟨4, [], 0, 0, 13⟩]
def msB : List Mk := [⟨0, [102], 0, 0, 0⟩, ⟨3, [40], 0, 0, 1⟩, ⟨0, [120], 0, 0, 2⟩, ⟨3, [41], 0, 0, 3⟩, ⟨3, [58], 0, 0, 4⟩, ⟨1, [78], 0, 0, 5⟩, ⟨3, [61], 0, 0, 6⟩, ⟨0, [120], 0, 0, 7⟩, ⟨3, [59], 0, 0, 8⟩, ⟨4, [], 0, 0, 9⟩]
def gA : Fn1 := ⟨[102], [⟨[120], 1, 2⟩], 1, .mk 8 [] [] 0 0 0 [.mk 6 [120] [] 0 0 0 [] 9, .mk 1 [] [] 0 1 0 [] 11] 10, 0⟩

theorem cutA : cut rdN tA 0 = .ok msA := by kernel_rfl
theorem cutB : cut rdN tB 0 = .ok msB := by kernel_rfl
theorem progA : progL (mf msA) ⟨max 99 0, max 99 0, max 99 0⟩ 200 [] 0 = .ok [gA] 12 := by kernel_rfl
theorem progB : progL (mf msB) ⟨max 99 0, max 99 0, max 99 0⟩ 200 [] 0 = .bad 21 3 := by kernel_rfl
theorem fl1 : fl 1 = 4607182418800017408 := by kernel_rfl

theorem paA {B : Nat} {e : Ending} {w' : World} (h : paV tA 99 99 99 99 200 B e w') : ∃ ao c, e = .returned (.tuple #[.agg #[.slice ao 1 c], .agg #[.int .i64 0, .int .i64 0]]) ∧ FlW w' (fun b => B ≤ b) ao [gA] := by
  unfold paV at h
  rw [if_neg (by decide), cutA] at h
  dsimp only at h
  rw [progA] at h
  exact h
theorem paB {B : Nat} {e : Ending} {w' : World} (h : paV tB 99 99 99 99 200 B e w') : e = .returned (noneV 21 3) := by
  unfold paV at h
  rw [if_neg (by decide), cutB] at h
  dsimp only at h
  rw [progB] at h
  exact h

/-- The cells that awake looks at. -/
theorem seeA {w : World} {A : Nat → Prop} {ao : Option Addr} (h : FlW w A ao [gA]) : ∃ g aoP cP gg off cA, ao = some ⟨g, 0, none⟩ ∧ g < w.heap.size ∧ gg < w.heap.size ∧
    w.cell? ⟨g, 1, none⟩ = some (.slice aoP 1 cP) ∧ w.cell? ⟨g, 3, none⟩ = some (.int .i64 8) ∧ w.cell? ⟨g, 8, none⟩ = some (.slice (some ⟨gg, off, none⟩) 2 cA) ∧ w.cell? ⟨g, 9, none⟩ = some (.int .i64 10) ∧ w.cell? ⟨gg, off + 7 + 4, none⟩ = some (.complex .f64 4607182418800017408 0) := by
  rcases h with h | ⟨g, cs, e, ha, hl, hr, hf⟩
  · cases h
  · cases hf with
    | cons h1 h2 =>
      obtain ⟨aoP, cP, es, rfl, hp, hx⟩ := h1
      cases hx with
      | @mk op name tail ty p q xs pos ao2 c2 hel =>
        cases hel with
        | @cons b off x vs xs ha2 hr2 hx2 hel2 =>
          cases hel2 with
          | @cons b2 off2 x2 vs2 xs2 ha3 hr3 hx3 hel3 =>
            cases hx3 with
            | mk hel4 =>
              have k1 := hr 1 _ rfl
              have k3 := hr 3 _ rfl
              have k8 := hr 8 _ rfl
              have k9 := hr 9 _ rfl
              have k4 := hr3 4 _ rfl
              rw [fl1, fl_zero] at k4
              exact ⟨g, aoP, cP, b, off, c2, e, hl, cell_lt k4, k1, k3, k8, k9, k4⟩

set_option maxHeartbeats 4000000 in
theorem awake4_any (w : World) (hG : Gl w) (hE : Env w) :
    Calls Tryz.prog 9 #[] w fun e w' => e = .returned (.bool true) ∧ Below w.heap.size w w' := by
  have hb0 := below_alloc w (.cells #[.int .i64 99, .int .i64 99, .int .i64 99, .int .i64 99] 24)
  have es0 : (w.alloc (.cells #[.int .i64 99, .int .i64 99, .int .i64 99, .int .i64 99] 24)).heap.size = w.heap.size + 1 := by simp
  have hL0 := Bk.new w 24 #[.int .i64 99, .int .i64 99, .int .i64 99, .int .i64 99]
  have hcs := Lib.run_convert_bytes_const (P := Tryz.prog) (w.alloc (.cells #[.int .i64 99, .int .i64 99, .int .i64 99, .int .i64 99] 24)) 22 5 #[.int .u8 102, .int .u8 40, .int .u8 120, .int .u8 32, .int .u8 78, .int .u8 41, .int .u8 58, .int .u8 78, .int .u8 61, .int .u8 120, .int .u8 43, .int .u8 49, .int .u8 59] 13 13 (by kernel_rfl) (by kernel_rfl)
  have hbd := Bd.new (w.alloc (.cells #[.int .i64 99, .int .i64 99, .int .i64 99, .int .i64 99] 24)) tA 5 (13, 14)
  rw [es0] at hcs hbd
  have hb1 := below_two w (.cells #[.int .i64 99, .int .i64 99, .int .i64 99, .int .i64 99] 24) (.cells #[.int .u8 102, .int .u8 40, .int .u8 120, .int .u8 32, .int .u8 78, .int .u8 41, .int .u8 58, .int .u8 78, .int .u8 61, .int .u8 120, .int .u8 43, .int .u8 49, .int .u8 59] 5 (13, 14))
  have hL1 := hL0.up (below_alloc _ (.cells #[.int .u8 102, .int .u8 40, .int .u8 120, .int .u8 32, .int .u8 78, .int .u8 41, .int .u8 58, .int .u8 78, .int .u8 61, .int .u8 120, .int .u8 43, .int .u8 49, .int .u8 59] 5 (13, 14)))
  have m1 := langParse_any (some ⟨w.heap.size + 1, 0, none⟩) 13 tA (by decide) (by decide) 99 99 99 99 (by decide) _ (hG.up hb1) (env_keep hE hb1) hbd 200 (fun ms e => by rw [cutA] at e; cases e; rw [progA]; simp)
  obtain ⟨l0, l1, l2, l3⟩ := Bk.four (show Bk _ w.heap.size 24 [_, _, _, _] from hL1)
  go_enter Tryz.func9, Tryz.ntmps9
  go_wp2_with fail
  refine m1.mono ?_
  rintro e w2 ⟨hb2, ha⟩
  obtain ⟨ao, c, rfl, hfl⟩ := paA ha
  obtain ⟨g, aoP, cP, gg, off, cA, rfl, hg, hgg, k1, k3, k8, k9, k4⟩ := seeA hfl
  have hB2 := Below.thn hb1 hb2
  have q3 := below_two w2 (.cells #[.slice (some ⟨g, 0, none⟩) 1 c] 30) (.cells #[.int .i64 0, .int .i64 0] 33)
  have q4 := Below.thn q3 (below_alloc ((w2.alloc (.cells #[.slice (some ⟨g, 0, none⟩) 1 c] 30)).alloc (.cells #[.int .i64 0, .int .i64 0] 33)) (.cells #[.int .u8 102, .int .u8 40, .int .u8 120, .int .u8 41, .int .u8 58, .int .u8 78, .int .u8 61, .int .u8 120, .int .u8 59] 5 (9, 10)))
  have hB4 := Below.thn hB2 q4
  have es3 : ((w2.alloc (.cells #[.slice (some ⟨g, 0, none⟩) 1 c] 30)).alloc (.cells #[.int .i64 0, .int .i64 0] 33)).heap.size = w2.heap.size + 1 + 1 := by simp
  have hcs2 := Lib.run_convert_bytes_const (P := Tryz.prog) ((w2.alloc (.cells #[.slice (some ⟨g, 0, none⟩) 1 c] 30)).alloc (.cells #[.int .i64 0, .int .i64 0] 33)) 22 5 #[.int .u8 102, .int .u8 40, .int .u8 120, .int .u8 41, .int .u8 58, .int .u8 78, .int .u8 61, .int .u8 120, .int .u8 59] 9 9 (by kernel_rfl) (by kernel_rfl)
  have hbd2 := Bd.new ((w2.alloc (.cells #[.slice (some ⟨g, 0, none⟩) 1 c] 30)).alloc (.cells #[.int .i64 0, .int .i64 0] 33)) tB 5 (9, 10)
  rw [es3] at hcs2 hbd2
  have hL4 := (hL1.up hb2).up q4
  obtain ⟨n0, n1, n2, n3⟩ := Bk.four (show Bk _ w.heap.size 24 [_, _, _, _] from hL4)
  have hp3 := (Bk.new w2 30 #[.slice (some ⟨g, 0, none⟩) 1 c]).up (below_alloc _ (.cells #[.int .i64 0, .int .i64 0] 33))
  have hf3 := Bk.newAt (w := w2.alloc (.cells #[.slice (some ⟨g, 0, none⟩) 1 c] 30)) (n := w2.heap.size + 1) 33 #[.int .i64 0, .int .i64 0] (by simp)
  have m2 := langParse_any (some ⟨w2.heap.size + 1 + 1, 0, none⟩) 9 tB (by decide) (by decide) 99 99 99 99 (by decide) _ (hG.up hB4) (env_keep hE hB4) hbd2 200 (fun ms e => by rw [cutB] at e; cases e; rw [progB]; simp)
  clear m1 hcs hbd hb0 hL0 hL1 l0 l1 l2 l3 hfl ha hb1 es0
  go_wp2_with fail
  refine m2.mono ?_
  rintro e w4 ⟨hb4, hb⟩
  rw [paB hb]
  unfold noneV
  have q5 := Below.thn (Below.thn (below_alloc ((w2.alloc (.cells #[.slice (some ⟨g, 0, none⟩) 1 c] 30)).alloc (.cells #[.int .i64 0, .int .i64 0] 33)) (.cells #[.int .u8 102, .int .u8 40, .int .u8 120, .int .u8 41, .int .u8 58, .int .u8 78, .int .u8 61, .int .u8 120, .int .u8 59] 5 (9, 10))) hb4) (below_two w4 (.cells #[.slice none 0 0] 30) (.cells #[.int .i64 21, .int .i64 3] 33))
  have q6 := Below.thn q3 q5
  have hB5 := Below.thn hB2 q6
  have hp5 := hp3.up q5
  have hf5 := hf3.up q5
  have j1 := (q6.cell (p := ⟨g, 1, none⟩) hg).trans k1
  have j3 := (q6.cell (p := ⟨g, 3, none⟩) hg).trans k3
  have j8 := (q6.cell (p := ⟨g, 8, none⟩) hg).trans k8
  have j9 := (q6.cell (p := ⟨g, 9, none⟩) hg).trans k9
  have j4 := (q6.cell (p := ⟨gg, off + 7 + 4, none⟩) hgg).trans k4
  have i0 : ((w4.alloc (.cells #[.slice none 0 0] 30)).alloc (.cells #[.int .i64 21, .int .i64 3] 33)).cell? ⟨w2.heap.size, 0, none⟩ = some (.slice (some ⟨g, 0, none⟩) 1 c) := hp5.cell 0
  have i1 : ((w4.alloc (.cells #[.slice none 0 0] 30)).alloc (.cells #[.int .i64 21, .int .i64 3] 33)).cell? ⟨w2.heap.size + 1, 0, none⟩ = some (.int .i64 0) := hf5.cell 0
  have i2 : ((w4.alloc (.cells #[.slice none 0 0] 30)).alloc (.cells #[.int .i64 21, .int .i64 3] 33)).cell? ⟨w2.heap.size + 1, 1, none⟩ = some (.int .i64 0) := hf5.cell 1
  clear m2 hb hcs2 hbd2 hL4 n0 n1 n2 n3 hp3 hf3 hp5 hf5 k1 k3 k8 k9 k4 q5 q6 q3 q4 hB4 hB2 hb4 hb2
  go_wp2
  go_ret
  exact ⟨rfl, hB5⟩
end Go.Proofs.YtkonkplalgoekaaGreatDoor
