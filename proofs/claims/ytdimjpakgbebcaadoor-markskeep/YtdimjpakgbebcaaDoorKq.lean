/-
  The walk of MarksKeep.
-/
import Derived.Test.YtdimjpakgbebcaaDoorMo
import Derived.Test.YtdimjpakgbebcaaDoorBp
import Derived.Test.YtdimjpakgbebcaaDoorBq
import Derived.Laws.IdiomStrings
namespace Go.Proofs.YtdimjpakgbebcaaDoor
open Go.RowKit
set_option maxRecDepth 100000

/-- Two bytes just laid, appended. -/
theorem own_two (w : World) (B : Nat) (v : Value) (xs : List UInt8) (h : Own w B v xs) (hB : B ≤ w.heap.size) (hx : xs.length ≤ 100000000) :
    ∃ v' w', (Builtin.append_ #[22, 22] 22 #[v, .slice (some ⟨w.heap.size, 0, none⟩) 2 2]).run Tryd.prog (w.alloc (.cells #[.int .u8 120, .int .u8 55] 5)) = .ok v' w' ∧ Own w' B v' (xs ++ [120, 55]) ∧ Below B w w' := by
  obtain ⟨v', w', hr, ho, hb⟩ := own_app (w.alloc (.cells #[.int .u8 120, .int .u8 55] 5)) B v xs (h.up (below_alloc _ _)) (by simp; omega) (some ⟨w.heap.size, 0, none⟩) 2 [120, 55] (Bd.new w [120, 55] 5 (0, 0)) (fun e => by cases e) hx (by simp)
  exact ⟨v', w', hr, ho, ((below_alloc w _).mono hB).trans hb⟩

theorem Own.blk {w : World} {B : Nat} {v : Value} {xs : List UInt8} (h : Own w B v xs) (hne : xs ≠ []) :
    ∃ g cap cur, v = .slice (some ⟨g, 0, none⟩) xs.length cap ∧ B ≤ g ∧ Bk w g 5 cur ∧ xs.length ≤ cap ∧ cur.length = cap ∧ ∀ t, t < xs.length → cur[t]? = some (byteV (xs.getD t 0)) := by
  rcases h.2 with ⟨_, h0⟩ | ⟨g, cap, cur, rfl, h2, h3, h4, _, h5, h6⟩
  · exact absurd (List.length_eq_zero_iff.1 h0) hne
  · refine ⟨g, cap, cur.toList, rfl, h2, ?_, h4, by simpa using h5, fun t ht => ?_⟩
    · unfold Bk; rw [h3]
    · have e : cur.toList[t]? = (cur.toList.take (xs.length * 1))[t]? := by rw [List.getElem?_take, if_pos (by omega)]
      rw [e, h6]
      simp [ht, List.getD_eq_getElem?_getD]

theorem Bk.bd {w : World} {g : Nat} {cur : List Value} {l : List UInt8} (h : Bk w g 5 cur) (hc : ∀ t, t < l.length → cur[t]? = some (byteV (l.getD t 0))) : Bd w (some ⟨g, 0, none⟩) l := by
  refine ⟨fun _ => ⟨g, 0, rfl, fun t ht => ?_⟩⟩
  rw [Nat.zero_add, h.cell, hc t ht]
  rfl

theorem run_slice_hiB (b o len cap n : Nat) (h : n ≤ cap) (w : World) : (Instr.slice 22 (.slice (some ⟨b, o, none⟩) len cap) none (some (.int .i64 (n : Int))) none).run Tryd.prog w = .ok (.slice (some ⟨b, o, none⟩) n cap) w := by
  simp [Instr.slice, Instr.sliceBounds, Instr.sliceBound, asIntOf, h, run_underlying Tryd.underBs, go_sem]

theorem run_conv0 (x : Option Addr) (c : Nat) (w : World) : (convert 22 9 (.slice x 0 c)).run Tryd.prog w = .ok (.string (bs [])) w := by
  rw [run_convert_bytes_string w 22 9 5 _ _ _ (by kernel_rfl) (by kernel_rfl) (by kernel_rfl)]
  cases x with
  | none => rfl
  | some a => exact run_bytesToString (P := Tryd.prog) w a 0 c [] rfl

theorem conv_any (ao : Option Addr) (c : Nat) (l : List UInt8) (w : World) (h : Bd w ao l) : (convert 22 9 (.slice ao l.length c)).run Tryd.prog w = .ok (.string (bs l)) w := by
  by_cases hl : l = []
  · subst hl
    exact run_conv0 ao c w
  · obtain ⟨b, off, rfl, hc⟩ := h.pl hl
    exact run_convert_bytes_back (P := Tryd.prog) w 22 9 5 ⟨b, off, none⟩ c l (by kernel_rfl) (by kernel_rfl) (by kernel_rfl) fun j hj => by
      rw [Addr.add_mid, hc j hj, List.getD_eq_getElem?_getD, List.getElem?_eq_getElem hj]
      rfl

/-- Bytes made of a string. -/
theorem unconv_any (l : List UInt8) (w : World) : ∃ c w', (convert 9 22 (.string (bs l))).run Tryd.prog w = .ok (.slice (some ⟨w.heap.size, 0, none⟩) l.length c) w' ∧ Bd w' (some ⟨w.heap.size, 0, none⟩) l ∧ l.length ≤ c ∧ Below w.heap.size w w' := by
  have h := run_bytes_of_string (P := Tryd.prog) w 9 22 5 (bs l) (by kernel_rfl) (by kernel_rfl) (by kernel_rfl)
  rw [bs_size] at h
  refine ⟨_, _, h, ?_, grownCap_ge _ _ _ _, ((Below.refl _ w).drew).alloc (Nat.le_refl _) _⟩
  refine ⟨fun _ => ⟨w.heap.size, 0, rfl, fun j hj => ?_⟩⟩
  have e := heap_alloc_new w.drew (.cells (bytesRow (bs l) (grownCap w l.length 0 5)) 5 ((bytesRow (bs l) (grownCap w l.length 0 5)).size, (bytesRow (bs l) (grownCap w l.length 0 5)).size + 1))
  have e2 := cell_of_row _ _ j _ _ _ e
  rw [Nat.zero_add]
  refine e2.trans ?_
  unfold bytesRow
  rw [Array.getElem?_append_left (by simpa [bs] using hj)]
  simp [bs, List.getD_eq_getElem?_getD, hj]

/-- What b is written over with. -/
def ovr (l1 l2 : List UInt8) : List UInt8 := (List.range l1.length).map fun t => if t < l2.length then l2.getD t 0 else 32
theorem ovr_len (l1 l2 : List UInt8) : (ovr l1 l2).length = l1.length := by simp [ovr]
theorem ovr_get (l1 l2 : List UInt8) (t : Nat) (h : t < l1.length) : (ovr l1 l2).getD t 0 = if t < l2.length then l2.getD t 0 else 32 := by
  simp [ovr, List.getD_eq_getElem?_getD, h]

theorem over_get (xs : List Value) : ∀ (vs : List Value) (o t : Nat), t < o → (over vs o xs)[t]? = vs[t]? := by
  induction xs with
  | nil => intro vs o t h; rfl
  | cons x xs ih => intro vs o t h; rw [over, ih _ _ _ (by omega), List.getElem?_set_ne (by omega)]

/-- A row of marks of the call's own, whatever they are: its block, if it has one. -/
theorem owns_blk {w : World} {B : Nat} {ao : Option Addr} {n c : Nat} {xs : List Value} (h : w.ownsRow B 34 4 (.slice ao n c) n xs) :
    (ao = none ∧ n = 0 ∧ c = 0) ∨ ∃ g cur, ao = some ⟨g, 0, none⟩ ∧ B ≤ g ∧ Bk w g 34 cur ∧ n ≤ c ∧ cur.length = c * 4 ∧ c ≤ maxLen := by
  rcases h.2 with ⟨h1, h0⟩ | ⟨g, cap, cur, h1, h2, h3, h4, h5, h6, _⟩
  · simp only [Value.slice.injEq] at h1
    exact .inl ⟨h1.1, h1.2.1, h1.2.2⟩
  · simp only [Value.slice.injEq] at h1
    obtain ⟨rfl, _, rfl⟩ := h1
    exact .inr ⟨g, cur.toList, rfl, h2, by unfold Bk; rw [h3], h4, by simpa using h6, h5⟩
theorem owns_of {w : World} {B g n c : Nat} {cur : List Value} (hB : B ≤ g) (hk : Bk w g 34 cur) (hn : n ≤ c) (hl : cur.length = c * 4) (hc : c ≤ maxLen) : w.ownsRow B 34 4 (.slice (some ⟨g, 0, none⟩) n c) n (cur.take (n * 4)) :=
  ⟨by rw [List.length_take]; omega, .inr ⟨g, c, cur.toArray, rfl, hB, hk, hn, hc, by simpa using hl, by simp⟩⟩

/-- A mark of nothing, appended to marks of the call's own. -/
theorem own_mark (w : World) (B : Nat) (v : Value) (n : Nat) (xs : List Value) (h : w.ownsRow B 34 4 v n xs) (hB : B ≤ w.heap.size) (hn : n ≤ 100000000) :
    ∃ v' w', (Builtin.append_ #[24, 24] 24 #[v, .slice (some ⟨w.heap.size, 0, none⟩) 1 1]).run Tryd.prog (w.alloc (.cells #[.int .i64 0, .string ⟨#[]⟩, .complex .f64 0 0, .int .i64 0] 34)) = .ok v' w' ∧ (w.alloc (.cells #[.int .i64 0, .string ⟨#[]⟩, .complex .f64 0 0, .int .i64 0] 34)).grownBy w' v.ownBlock := by
  obtain ⟨i0, hi, hz0, hz1, hz2⟩ := info_parts Tryd.infoMk
  have hk := Bk.new w 34 #[.int .i64 0, .string ⟨#[]⟩, .complex .f64 0 0, .int .i64 0]
  obtain ⟨v', w', hr, _, hgr, _⟩ := run_append_own (P := Tryd.prog) _ B 24 24 34 i0 _ 4 _ Tryd.underMs hi hz0 hz1 hz2 rfl (by decide) v n xs (owns_up h (below_alloc w _)) ⟨w.heap.size, 0, none⟩ 1 1 [.int .i64 0, .string ⟨#[]⟩, .complex .f64 0 0, .int .i64 0] rfl (by
    intro j u hj
    rw [Addr.add_mid, Nat.zero_add, hk.cell]
    exact hj) (by intro u hu; simp only [List.mem_cons, List.not_mem_nil, or_false] at hu; rcases hu with rfl | rfl | rfl | rfl <;> rfl) (by unfold maxLen; omega) (by omega) (by simp; omega)
  exact ⟨v', w', hr, hgr⟩

/-- The place that the document's Marks tells. -/
def atC : Cu → Int
  | .ok _ => -1
  | .bad k => k
theorem refMarks_val (ao : Option Addr) (cap : Nat) (l : List UInt8) (hlen : l.length ≤ 16777216) (hcap : l.length ≤ cap) (w : World) (hT : Bd w ao l) :
    Calls Tryd.prog 8 #[.slice ao l.length cap] w fun e w' => ∃ go c, e = .returned (.tuple #[.slice go (msC (cut rdN l 0)).length c, .int .i64 (atC (cut rdN l 0))]) ∧ Mr w' go (msC (cut rdN l 0)) ∧ Below w.heap.size w w' := by
  refine (refMarks_any ao cap l hlen hcap w hT).mono ?_
  rintro e w' ⟨ha, hb⟩
  cases hc : cut rdN l 0 with
  | ok ms =>
    rw [hc] at ha
    obtain ⟨g, c, rfl, ho⟩ := ha
    exact ⟨some ⟨g, 0, none⟩, c, rfl, Mr.of ho, hb⟩
  | bad k =>
    rw [hc] at ha
    exact ⟨none, 0, ha, Mr.nil _ _, hb⟩

theorem Mr.keep {w w' : World} {ao : Option Addr} {ms : List Mk} (h : Mr w ao ms) (hk : ∀ b off, ao = some ⟨b, off, none⟩ → ms ≠ [] → w'.heap[b]? = w.heap[b]?) : Mr w' ao ms := by
  refine ⟨fun hn => ?_⟩
  obtain ⟨b, off, e, hc⟩ := h.pl hn
  refine ⟨b, off, e, fun t ht => ?_⟩
  have hq : ∀ j, w'.cell? ⟨b, j, none⟩ = w.cell? ⟨b, j, none⟩ := fun j => World.cell?_of_block (w := w) (hk b off e hn)
  obtain ⟨m1, m2, m3, m4⟩ := hc t ht
  exact ⟨(hq _).trans m1, (hq _).trans m2, (hq _).trans m3, (hq _).trans m4⟩
theorem Mr.but2 {w w' : World} {R : Nat} {ao : Option Addr} {ms : List Mk} (h : Mr w ao ms) (hU : But R w w') (hn : ∀ b off, ao = some ⟨b, off, none⟩ → ms ≠ [] → b ≠ R) : Mr w' ao ms := by
  refine h.keep fun b off e hne => hU.block b ?_ (hn b off e hne)
  subst e
  exact (h.at 0 (List.length_pos_iff.2 hne)).lt
theorem oth_but {g : Nat} {w w' : World} (h : Oth g w w') : But g w w' := ⟨h.os, h.tape, h.output, Nat.le_of_eq h.size.symm, fun k _ hn => h.block k hn⟩
theorem S2.but2 {w w' : World} {R b : Nat} {x y : Value} (h : S2 w b x y) (hU : But R w w') (hn : b ≠ R) : S2 w' b x y := by
  unfold S2 at h ⊢
  rw [hU.block b (S2.lt h) hn]
  exact h
theorem S2.up3 {w w' : World} {b : Nat} {x y : Value} (h : S2 w b x y) (hb : Below w.heap.size w w') : S2 w' b x y := h.to h.lt hb
theorem Bd.but2 {w w' : World} {R b : Nat} {l : List UInt8} (h : Bd w (some ⟨b, 0, none⟩) l) (hU : But R w w') (hn : b ≠ R) : Bd w' (some ⟨b, 0, none⟩) l := by
  refine ⟨fun hne => ?_⟩
  obtain ⟨b', off, e, hc⟩ := h.pl hne
  cases e
  refine ⟨b, 0, rfl, fun t ht => ?_⟩
  have h1 := hc t ht
  rw [← h1]
  exact World.cell?_of_block (w := w) (hU.block b (cell_lt h1) hn)

set_option maxHeartbeats 8000000 in
theorem keep_any (a1 a2 : Option Addr) (c1 c2 : Nat) (l1 l2 : List UInt8) (hlen : l1.length + l2.length + 2 ≤ 1048576) (hc1 : l1.length ≤ c1) (_hc2 : l2.length ≤ c2) (hn1 : a1 = none → c1 = 0) (w : World) (hG : Gl w) (hE : Env w) (h1 : Bd w a1 l1) (h2 : Bd w a2 l2) :
    Calls Tryd.prog 4 #[.slice a1 l1.length c1, .slice a2 l2.length c2] w fun e w' => e = .returned (.bool true) ∧ Below w.heap.size w w' := by
  go_enter Tryd.func4, Tryd.ntmps4
  go_wp2_with fail
  refine (awake_any _ hG hE).mono ?_
  rintro e w1 ⟨rfl, hB1⟩
  obtain ⟨v2, w2, r2, o2, b2⟩ := own_app _ _ _ _ (Own.new w1) (by simp) a1 c1 l1 ((h1.up hB1).up (below_alloc _ _)) hn1 (by simp) (by omega)
  rw [List.nil_append] at o2
  have q2 : Below w1.heap.size w1 w2 := (below_alloc w1 _).trans b2
  obtain ⟨v3, w3, r3, o3, b3⟩ := own_two w2 _ v2 l1 o2 q2.size (by omega)
  have q3 := q2.trans b3
  have hB3 := Below.thn hB1 q3
  obtain ⟨g, cap, cur, hv3, hgl, hcur, hcap, hcl, hcc⟩ := o3.blk (by simp)
  subst hv3
  have e2 : (l1 ++ [(120 : UInt8), 55]).length = l1.length + 2 := by simp
  rw [e2] at r3 hcap hcc
  have sl := fun W => run_slice_hiB g 0 (l1.length + 2) cap l1.length (by omega) W
  have R2 : Hid (_ = _) := r2
  have R3 : Hid (_ = _) := r3
  clear r2 r3 o2 b2 b3 o3 q3 q2
  go_wp2_with (first
    | (at_builtin; refine wpList_append_run rfl (.tmp 21) (.tmp 22) 22 rfl rfl _ _ rfl rfl _ _ (show _ = _ from R2) ?_)
    | (at_builtin; refine wpList_append_run rfl (.tmp 23) (.tmp 24) 22 rfl rfl _ _ rfl rfl _ _ (show _ = _ from R3) ?_))
  have hgs := hcur.lt
  have hgw : w.heap.size ≤ g := by have := hB1.size; omega
  have cc1 : ∀ t, t < l1.length → cur[t]? = some (byteV (l1.getD t 0)) := by
    intro t ht
    rw [hcc t (by omega), List.getD_eq_getElem?_getD, List.getD_eq_getElem?_getD, List.getElem?_append_left ht]
  have cx : cur[l1.length]? = some (.int .u8 120) := by
    rw [hcc _ (by omega), List.getD_eq_getElem?_getD, List.getElem?_append_right (Nat.le_refl _), Nat.sub_self]; rfl
  have cy : cur[l1.length + 1]? = some (.int .u8 55) := by
    rw [hcc _ (by omega), List.getD_eq_getElem?_getD, List.getElem?_append_right (by omega), show l1.length + 1 - l1.length = 1 by omega]; rfl
  clear hcc R2 R3
  refine (marks_val (some ⟨g, 0, none⟩) cap l1 (by omega) (by omega) w3 (hG.up hB3) (env_keep hE hB3) (hcur.bd cc1)).mono ?_
  rintro e w4 ⟨gl, pl, rfl, hol, _, hb4⟩
  obtain ⟨cA, hcA⟩ : ∃ c, c = cut rdN l1 0 := ⟨_, rfl⟩
  rw [← hcA] at hol ⊢
  have p5 := Below.thn hb4 (below_alloc w4 (.cells #[.int .i64 (fwC cA), .int .i64 (faC cA)] 27))
  have hB5 := Below.thn hB3 p5
  have hcur5 := hcur.up p5
  have hf5 := S2.new w4 (.int .i64 (fwC cA)) (.int .i64 (faC cA))
  have hol5 := owns_up hol (below_alloc w4 (.cells #[.int .i64 (fwC cA), .int .i64 (faC cA)] 27))
  have es5 : (w4.alloc (.cells #[.int .i64 (fwC cA), .int .i64 (faC cA)] 27)).heap.size = w4.heap.size + 1 := by simp
  have m5 := marks_val (some ⟨g, 0, none⟩) cap l1 (by omega) (by omega) (w4.alloc (.cells #[.int .i64 (fwC cA), .int .i64 (faC cA)] 27)) (hG.up hB5) (env_keep hE hB5) (hcur5.bd cc1)
  rw [← hcA] at m5
  have HA : Hid (cA = cut rdN l1 0) := hcA
  clear hcA
  go_wp2_with fail
  refine m5.mono ?_
  rintro e w6 ⟨gm, pm, rfl, hom, hrm, hb6⟩
  have p7 := Below.thn hb6 (below_alloc w6 (.cells #[.int .i64 (fwC cA), .int .i64 (faC cA)] 27))
  have hB7 := Below.thn hB5 p7
  have hcur7 := hcur5.up p7
  have hf7 := hf5.up3 p7
  have hg7 := S2.new w6 (.int .i64 (fwC cA)) (.int .i64 (faC cA))
  have hol7 := owns_up hol5 p7
  have hrm7 := hrm.up (below_alloc w6 (.cells #[.int .i64 (fwC cA), .int .i64 (faC cA)] 27))
  have hgm : ∀ b off, gm = some ⟨b, off, none⟩ → msC cA ≠ [] → w4.heap.size + 1 ≤ b ∧ b < w6.heap.size := by
    intro b off e hne
    subst e
    refine ⟨?_, (hrm.at 0 (List.length_pos_iff.2 hne)).lt⟩
    rcases hom.2 with ⟨h', _⟩ | ⟨g', cap', cur', h', hb, _⟩
    · simp at h'
    · simp only [Value.slice.injEq, Option.some.injEq, Addr.mk.injEq, and_true, true_and] at h'
      rw [es5] at hb
      omega
  have hgl4 : ∀ b off, gl = some ⟨b, off, none⟩ → w3.heap.size ≤ b ∧ b < w4.heap.size := by
    intro b off e
    subst e
    rcases hol.2 with ⟨h', _⟩ | ⟨g', cap', cur', h', hb, hc', _⟩
    · simp at h'
    · simp only [Value.slice.injEq, Option.some.injEq, Addr.mk.injEq, and_true, true_and] at h'
      have : g' < w4.heap.size := by
        rcases Nat.lt_or_ge g' w4.heap.size with j | j
        · exact j
        · rw [Array.getElem?_eq_none j] at hc'; cases hc'
      omega
  have k1 := conv_any (some ⟨g, 0, none⟩) cap l1 (w6.alloc (.cells #[.int .i64 (fwC cA), .int .i64 (faC cA)] 27)) (hcur7.bd cc1)
  have k2 := conv_any a1 c1 l1 (w6.alloc (.cells #[.int .i64 (fwC cA), .int .i64 (faC cA)] 27)) (h1.up hB7)
  have x1 : (w6.alloc (.cells #[.int .i64 (fwC cA), .int .i64 (faC cA)] 27)).cell? ⟨g, l1.length, none⟩ = some (.int .u8 120) := (hcur7.cell _).trans cx
  have x2 : (w6.alloc (.cells #[.int .i64 (fwC cA), .int .i64 (faC cA)] 27)).cell? ⟨g, l1.length + 1, none⟩ = some (.int .u8 55) := (hcur7.cell _).trans cy
  have hw1 : IntKind.i64.wrap ((l1.length : Int) + 1) = (l1.length : Int) + 1 := by rw [IntKind.wrap_i64]; omega
  obtain ⟨f0, f1, _, _⟩ := hf7.cells
  obtain ⟨g0, g1, _, _⟩ := hg7.cells
  have sz4 := hb4.size
  have sz6 := hb6.size
  rw [es5] at sz6
  have HOL : Hid ((w6.alloc (.cells #[.int .i64 (fwC cA), .int .i64 (faC cA)] 27)).ownsRow w3.heap.size 34 4 (.slice gl (msC cA).length pl) (msC cA).length (mksC (msC cA))) := hol7
  have HRM : Hid (Mr (w6.alloc (.cells #[.int .i64 (fwC cA), .int .i64 (faC cA)] 27)) gm (msC cA)) := hrm7
  have HF : Hid (S2 (w6.alloc (.cells #[.int .i64 (fwC cA), .int .i64 (faC cA)] 27)) w4.heap.size (.int .i64 (fwC cA)) (.int .i64 (faC cA))) := hf7
  have HC : Hid (Bk (w6.alloc (.cells #[.int .i64 (fwC cA), .int .i64 (faC cA)] 27)) g 5 cur) := hcur7
  have es7 : (w6.alloc (.cells #[.int .i64 (fwC cA), .int .i64 (faC cA)] 27)).heap.size = w6.heap.size + 1 := by simp
  have hn1 : (msC cA).length ≤ 1048578 := by
    have e := show cA = _ from HA
    cases cA with
    | bad k => simp [msC]
    | ok ms => have := cut_few _ _ _ e.symm; simp only [msC]; omega
  clear m5 hb4 hb6 p5 p7 hB5 hcur5 hol5 hol hrm hom hol7 hrm7 hcur hcur7 hf5 hf7 hg7 cc1 cx cy hB3
  go_wp2
  generalize hW7 : w6.alloc (.cells #[.int .i64 (fwC cA), .int .i64 (faC cA)] 27) = w7 at *
  clear hW7 k1 k2 x1 x2 f0 f1 g0 g1
  go_loopw [11] (fun i wr => ∃ (k : Nat) (cu : List Value), k ≤ l1.length ∧ i = .int .i64 k ∧ Oth g w7 wr ∧ Bk wr g 5 cu ∧ cu.length = cap ∧ Hid (∀ t, t < k → cu[t]? = some (byteV ((ovr l1 l2).getD t 0)))) (fun i _ => l1.length - (intOf i).toNat)
  case atStart => exact ⟨0, cur, Nat.zero_le _, rfl, Oth.refl _ _, HC, hcl, fun t h => absurd h (by omega)⟩
  case round =>
    obtain ⟨k, cu, hk, rfl, hot, hbk, hcul, hv⟩ := hrel
    by_cases hlt : k < l1.length
    · obtain ⟨u, hu⟩ : ∃ u, cu[k]? = some u := ⟨_, List.getElem?_eq_getElem (by omega)⟩
      have d1 := (hbk.cell k).trans hu
      have z1 := hbk.frz k
      by_cases hg2 : k < l2.length
      · obtain ⟨b2, o2, rfl, hc⟩ := h2.pl (by intro e; rw [e] at hg2; simp at hg2)
        obtain ⟨c, hcd⟩ : ∃ c, c = l2.getD k 0 := ⟨_, rfl⟩
        have d2 := hc k hg2
        rw [← hcd] at d2
        have hb2 : b2 < w.heap.size := cell_lt d2
        have d3 : (wr.setCell ⟨g, k, none⟩ (.int .u8 32)).cell? ⟨b2, o2 + k, none⟩ = some (.int .u8 (c.toNat : Int)) := by
          rw [((Oth.refl g wr).set k (.int .u8 32)).cell (a := ⟨b2, o2 + k, none⟩) (by show b2 ≠ g; omega), hot.cell (a := ⟨b2, o2 + k, none⟩) (by show b2 ≠ g; omega), hB7.cell (p := ⟨b2, o2 + k, none⟩) hb2]
          exact d2
        have hb3 := (hbk.set k (.int .u8 32)).set k (.int .u8 (c.toNat : Int))
        have ho3 := (hot.set k (.int .u8 32)).set k (.int .u8 (c.toNat : Int))
        have d4 := ((hbk.set k (.int .u8 32)).cell k).trans (List.getElem?_set_self (by omega))
        have z4 := (hbk.set k (.int .u8 32)).frz k
        have hvk : ∀ t, t < k + 1 → ((cu.set k (.int .u8 32)).set k (.int .u8 (c.toNat : Int)))[t]? = some (byteV ((ovr l1 l2).getD t 0)) := by
          intro t ht
          by_cases e : t = k
          · subst e
            rw [ovr_get _ _ _ hlt, if_pos hg2, ← hcd, List.getElem?_set_self (by simp; omega)]
            rfl
          · rw [List.getElem?_set_ne (by omega), List.getElem?_set_ne (by omega)]
            exact (show ∀ t, t < k → _ from hv) t (by omega)
        have HV : Hid (∀ t, t < k + 1 → ((cu.set k (.int .u8 32)).set k (.int .u8 (c.toNat : Int)))[t]? = some (byteV ((ovr l1 l2).getD t 0))) := hvk
        clear hvk hv hc hcd d2 hu
        go_wp2
        go_roundw
        case rel => exact ⟨k + 1, _, by omega, by go_num, ho3, hb3, by simpa using hcul, HV⟩
        case measure => simp [intOf]; omega
      · have hb3 := hbk.set k (.int .u8 32)
        have ho3 := hot.set k (.int .u8 32)
        have hvk : ∀ t, t < k + 1 → (cu.set k (.int .u8 32))[t]? = some (byteV ((ovr l1 l2).getD t 0)) := by
          intro t ht
          by_cases e : t = k
          · subst e
            rw [ovr_get _ _ _ hlt, if_neg hg2, List.getElem?_set_self (by omega)]
            rfl
          · rw [List.getElem?_set_ne (by omega)]
            exact (show ∀ t, t < k → _ from hv) t (by omega)
        have HV : Hid (∀ t, t < k + 1 → (cu.set k (.int .u8 32))[t]? = some (byteV ((ovr l1 l2).getD t 0))) := hvk
        clear hvk hv hu
        go_wp2
        go_roundw
        case rel => exact ⟨k + 1, _, by omega, by go_num, ho3, hb3, by simpa using hcul, HV⟩
        case measure => simp [intOf]; omega
    · have hke : k = l1.length := by omega
      subst hke
      obtain ⟨l3, hl3⟩ : ∃ l3, l3 = ovr l1 l2 := ⟨_, rfl⟩
      have h3l : l3.length = l1.length := by rw [hl3]; exact ovr_len l1 l2
      have hbd : Bd wr (some ⟨g, 0, none⟩) l3 := hbk.bd (by rw [h3l, hl3]; exact hv)
      have hU8 := oth_but hot
      have hrm8 := Mr.but2 (show Mr w7 gm _ from HRM) hU8 (fun b off e hne => by have := hgm b off e hne; omega)
      have hf8 := S2.but2 (show S2 w7 _ _ _ from HF) hU8 (by omega)
      have hB8 := Below.trans hB7 (hU8.below hgw hB7.size)
      have hsz8 := hU8.size
      have hol8 : wr.ownsRow w3.heap.size 34 4 (.slice gl (msC cA).length pl) (msC cA).length (mksC (msC cA)) := by
        have ho := show w7.ownsRow w3.heap.size 34 4 (.slice gl (msC cA).length pl) (msC cA).length (mksC (msC cA)) from HOL
        refine ⟨ho.1, ?_⟩
        rcases ho.2 with h' | ⟨g', cap', cur', h', hb, hh, hrest⟩
        · exact .inl h'
        · refine .inr ⟨g', cap', cur', h', hb, ?_, hrest⟩
          rw [hot.block g' (by omega)]
          exact hh
      have m9 := marks_val (some ⟨g, 0, none⟩) cap l3 (by omega) (by omega) wr (hG.up hB8) (env_keep hE hB8) hbd
      rw [h3l] at m9
      obtain ⟨cB, hcB⟩ : ∃ c, c = cut rdN l3 0 := ⟨_, rfl⟩
      rw [← hcB] at m9
      have HB : Hid (cB = cut rdN l3 0) := hcB
      have H3 : Hid (l3.length = l1.length) := h3l
      clear hcB hv hl3 hbk HRM HF HOL HC h3l
      go_wp2_with fail
      refine m9.mono ?_
      rintro e w9 ⟨ga, pa, rfl, hoa, hra, hb9⟩
      have p10 := Below.thn hb9 (below_alloc w9 (.cells #[.int .i64 (fwC cB), .int .i64 (faC cB)] 27))
      have hB10 := Below.thn hB8 p10
      have hrm10 := hrm8.up p10
      have hf10 := hf8.up3 p10
      have hol10 := owns_up hol8 p10
      have hra10 := hra.up (below_alloc w9 (.cells #[.int .i64 (fwC cB), .int .i64 (faC cB)] 27))
      have hh10 := S2.new w9 (.int .i64 (fwC cB)) (.int .i64 (faC cB))
      have hbd10 := hbd.up p10
      have hsz9 := hb9.size
      have es10 : (w9.alloc (.cells #[.int .i64 (fwC cB), .int .i64 (faC cB)] 27)).heap.size = w9.heap.size + 1 := by simp
      have hga : ∀ b off, ga = some ⟨b, off, none⟩ → msC cB ≠ [] → wr.heap.size ≤ b ∧ b < w9.heap.size := by
        intro b off e hne
        subst e
        refine ⟨?_, (hra.at 0 (List.length_pos_iff.2 hne)).lt⟩
        rcases hoa.2 with ⟨h', _⟩ | ⟨g', cap', cur', h', hb, _⟩
        · simp at h'
        · simp only [Value.slice.injEq, Option.some.injEq, Addr.mk.injEq, and_true, true_and] at h'
          omega
      obtain ⟨n1, hn1e⟩ : ∃ n, n = (msC cA).length := ⟨_, rfl⟩
      obtain ⟨bl, hglb, hsep, hblw⟩ : ∃ bl, (n1 = 0 ∨ gl = some ⟨bl, 0, none⟩) ∧ (∀ b, b < w9.heap.size + 1 → b < w3.heap.size ∨ w4.heap.size ≤ b → b ≠ bl) ∧ w.heap.size ≤ bl ∧ (∀ b, (Value.slice gl n1 pl).ownBlock = some b → b = bl) := by
        rcases owns_blk hol10 with ⟨h1', h2', _⟩ | ⟨bl, cl, h1', h2', h3', _⟩
        · refine ⟨w9.heap.size + 1, .inl (by omega), fun b hb _ => by omega, by have := hB10.size; omega, ?_⟩
          rw [h1']
          intro b hb
          simp [Value.ownBlock] at hb
        · have h4' := hgl4 bl 0 h1'
          refine ⟨bl, .inr h1', fun b hb hx => by omega, by omega, ?_⟩
          rw [h1']
          intro b hb
          simp [Value.ownBlock] at hb
          exact hb.symm
      rw [← hn1e] at hn1 hol10 ⊢
      have HN : Hid (n1 = (msC cA).length) := hn1e
      clear hn1e
      have HO : Hid (∃ xs, (w9.alloc (.cells #[.int .i64 (fwC cB), .int .i64 (faC cB)] 27)).ownsRow w3.heap.size 34 4 (.slice gl n1 pl) n1 xs) := ⟨_, hol10⟩
      have HRM : Hid (Mr (w9.alloc (.cells #[.int .i64 (fwC cB), .int .i64 (faC cB)] 27)) gm (msC cA)) := hrm10
      have HRA : Hid (Mr (w9.alloc (.cells #[.int .i64 (fwC cB), .int .i64 (faC cB)] 27)) ga (msC cB)) := hra10
      have HF : Hid (S2 (w9.alloc (.cells #[.int .i64 (fwC cB), .int .i64 (faC cB)] 27)) w4.heap.size (.int .i64 (fwC cA)) (.int .i64 (faC cA))) := hf10
      have HH : Hid (S2 (w9.alloc (.cells #[.int .i64 (fwC cB), .int .i64 (faC cB)] 27)) w9.heap.size (.int .i64 (fwC cB)) (.int .i64 (faC cB))) := hh10
      have HD : Hid (Bd (w9.alloc (.cells #[.int .i64 (fwC cB), .int .i64 (faC cB)] 27)) (some ⟨g, 0, none⟩) l3) := hbd10
      clear m9 hb9 p10 hrm8 hrm10 hf8 hf10 hol8 hol10 hra hra10 hoa hh10 hbd hbd10 hot hU8
      go_wp2
      generalize hW10 : w9.alloc (.cells #[.int .i64 (fwC cB), .int .i64 (faC cB)] 27) = w10 at *
      clear hW10
      go_loopw [14] (fun i wr => ∃ k : Nat, k ≤ n1 ∧ i = .int .i64 k ∧ But bl w10 wr ∧ Hid (∃ xs, wr.ownsRow w3.heap.size 34 4 (.slice gl n1 pl) n1 xs)) (fun i _ => n1 - (intOf i).toNat)
      case atStart => exact ⟨0, Nat.zero_le _, rfl, But.refl _ _, HO⟩
      case round =>
        obtain ⟨k, hk, rfl, hU, hO⟩ := hrel
        by_cases hlt : k < n1
        · rcases hglb with h0 | rfl
          · omega
          obtain ⟨xs, hx⟩ := show ∃ xs, World.ownsRow _ _ _ _ _ _ xs from hO
          rcases owns_blk hx with ⟨h1', _, _⟩ | ⟨b', cl, h1', h2', h3', h4', h5', h6'⟩
          · cases h1'
          cases h1'
          clear hx hO
          go_wp2_with (refine wpList_storeN rfl 34 (.tmp 101) (.tmp 100) rfl bl (k * 4) [.int .i64 0, .string ⟨#[119, 114, 105, 116, 116, 101, 110, 32, 111, 118, 101, 114]⟩, .complex .f64 0 0, .int .i64 0] rfl rfl h3' (by simp; omega) Tryd.infoM (by intro u hu; simp only [List.mem_cons, List.not_mem_nil, or_false] at hu; rcases hu with rfl | rfl | rfl | rfl <;> rfl) ?_; intro w11 hb11 ho11)
          go_roundw
          case rel => exact ⟨k + 1, by omega, by go_num, ⟨ho11.os.trans hU.os, ho11.tape.trans hU.tape, ho11.output.trans hU.output, by rw [ho11.size]; exact hU.size, fun j hj hn => (ho11.block j hn).trans (hU.block j hj hn)⟩, ⟨_, owns_of h2' hb11 h4' (by rw [over_len]; exact h5') h6'⟩⟩
          case measure => simp [intOf]; omega
        · have hke : k = n1 := by omega
          subst hke
          obtain ⟨xs, hx⟩ := show ∃ xs, World.ownsRow _ _ _ _ _ _ xs from hO
          have hszr := hU.size
          obtain ⟨v12, w12, r12, hg12⟩ := own_mark wr w3.heap.size _ k xs hx (by omega) (by omega)
          have hU12 : But bl w10 w12 := by
            refine ⟨hg12.os.trans hU.os, hg12.tape.trans hU.tape, hg12.output.trans hU.output, Nat.le_trans hszr (Nat.le_trans (by simp) hg12.size), fun j hj hn => ?_⟩
            rw [hg12.block j (by simp; omega) (fun e => hn (hblw.2 j e.symm)), Below.heap_alloc _ _ _ (by omega)]
            exact hU.block j hj hn
          have R12 : Hid (_ = _) := r12
          have hB12 := Below.trans hB10 (hU12.below hblw.1 hB10.size)
          have hrm12 := Mr.but2 (show Mr w10 gm _ from HRM) hU12 (fun b off e hne => by have := hgm b off e hne; exact hsep b (by omega) (.inr (by omega)))
          have hra12 := Mr.but2 (show Mr w10 ga _ from HRA) hU12 (fun b off e hne => by have := hga b off e hne; exact hsep b (by omega) (.inr (by omega)))
          have hf12 := S2.but2 (show S2 w10 _ _ _ from HF) hU12 (hsep _ (by omega) (.inr (Nat.le_refl _)))
          have hh12 := S2.but2 (show S2 w10 _ _ _ from HH) hU12 (hsep _ (by omega) (.inr (by omega)))
          have hd12 := Bd.but2 (show Bd w10 _ l3 from HD) hU12 (hsep _ (by omega) (.inl (by omega)))
          have m13 := refMarks_val a1 c1 l1 (by omega) hc1 w12 (h1.up hB12)
          rw [← show cA = _ from HA] at m13
          clear r12 hg12 hx hO hU HRM HRA HF HH HD HO hU12
          go_wp2_with (at_builtin; refine wpList_append_run rfl (.tmp 102) (.tmp 104) 24 rfl rfl _ _ rfl rfl _ _ (show _ = _ from R12) ?_)
          refine m13.mono ?_
          rintro e w13 ⟨gw, pw, rfl, hrw, hb13⟩
          have hB13 := Below.thn hB12 hb13
          have hd13 := hd12.up hb13
          have kc := conv_any (some ⟨g, 0, none⟩) cap l3 w13 hd13
          obtain ⟨c14, w14, ku, hd14, hc14, hb14⟩ := unconv_any l3 w13
          have q14 := Below.thn hb13 hb14
          have m15 := refMarks_val (some ⟨w13.heap.size, 0, none⟩) c14 l3 (by have := (show l3.length = _ from H3); omega) hc14 w14 hd14
          rw [← show cB = _ from HB] at m15
          rw [show l3.length = _ from H3] at kc ku m15
          have hB14 := Below.thn hB13 hb14
          clear m13 hd12 hd13 hd14 R12
          go_wp2_with fail
          refine m15.mono ?_
          rintro e w15 ⟨gv, pv, rfl, hrv, hb15⟩
          have q15 := Below.thn q14 hb15
          have hB15 := Below.thn hB14 hb15
          have hm15 := hrm12.up q15
          have ha15 := hra12.up q15
          have hw15 := (hrw.up hb14).up hb15
          have hF15 := hf12.up3 q15
          have hH15 := hh12.up3 q15
          have hN := show k = _ from HN
          subst hN
          obtain ⟨f0, _, _, _⟩ := hF15.cells
          obtain ⟨j0, _, _, _⟩ := hH15.cells
          have eA := show cA = _ from HA
          have eB := show cB = _ from HB
          clear kc ku m15 hb13 hb14 hb15 q14 q15 hrm12 hra12 hf12 hh12 hF15 hH15 hrw HA HB HN
          cases cA with
          | bad kA =>
            have dA : decide ((kA : Int) < 0) = false := by rw [decide_eq_false_iff_not]; omega
            have nA : ¬ ((kA : Int) < 0) := by omega
            have pA : (0 : Int) ≤ (kA : Int) := by omega
            clear eA hm15 hw15
            simp only [msC, fwC, faC, atC] at f0 ⊢
            cases cB with
            | bad kB =>
              have dB : decide ((kB : Int) < 0) = false := by rw [decide_eq_false_iff_not]; omega
              have nB : ¬ ((kB : Int) < 0) := by omega
              have pB : (0 : Int) ≤ (kB : Int) := by omega
              clear eB ha15 hrv
              simp only [fwC] at j0 ⊢
              go_wp2
              go_ret
              exact ⟨rfl, hB15⟩
            | ok mB =>
              have hfB := cut_few _ _ _ eB.symm
              have hsm := same_any true ga gv pa pv mB mB rfl (by have := (show l3.length = _ from H3); omega) w15 ha15 hrv (fun t _ => eqM_refl _ _) (okN_get (cut_okN _ _ _ eB.symm))
              clear eB ha15 hrv hfB
              simp only [fwC] at j0 ⊢
              go_wp2_with (go_at_call 7; refine hsm.mono ?_; rintro e w16 ⟨rfl, hb16⟩)
              go_ret
              exact ⟨rfl, Below.thn hB15 hb16⟩
          | ok mA =>
            have hsA := same_any true gm gw pm pw mA mA rfl (by simp only [msC] at hn1; omega) w15 hm15 hw15 (fun t _ => eqM_refl _ _) (okN_get (cut_okN _ _ _ eA.symm))
            clear eA hm15 hw15
            simp only [msC, fwC, faC, atC] at f0 ⊢
            cases cB with
            | bad kB =>
              have dB : decide ((kB : Int) < 0) = false := by rw [decide_eq_false_iff_not]; omega
              have nB : ¬ ((kB : Int) < 0) := by omega
              have pB : (0 : Int) ≤ (kB : Int) := by omega
              clear eB ha15 hrv
              simp only [fwC] at j0 ⊢
              go_wp2_with (go_at_call 7; refine hsA.mono ?_; rintro e w16 ⟨rfl, hb16⟩; have j1 := (hb16.cell (cell_lt j0)).trans j0)
              go_ret
              exact ⟨rfl, Below.thn hB15 hb16⟩
            | ok mB =>
              have hfB := cut_few _ _ _ eB.symm
              have hsB := fun W (hW : Below w15.heap.size w15 W) => same_any true ga gv pa pv mB mB rfl (by have := (show l3.length = _ from H3); omega) W (ha15.up hW) (hrv.up hW) (fun t _ => eqM_refl _ _) (okN_get (cut_okN _ _ _ eB.symm))
              clear eB ha15 hrv hfB
              simp only [fwC] at j0 ⊢
              go_wp2_with fail
              refine hsA.mono ?_
              rintro e w16 ⟨rfl, hb16⟩
              have j1 := (hb16.cell (cell_lt j0)).trans j0
              have hs2 := hsB w16 hb16
              clear hsA hsB
              go_wp2_with (go_at_call 7; refine hs2.mono ?_; rintro e w17 ⟨rfl, hb17⟩)
              go_ret
              exact ⟨rfl, Below.thn (Below.thn hB15 hb16) hb17⟩
end Go.Proofs.YtdimjpakgbebcaaDoor
