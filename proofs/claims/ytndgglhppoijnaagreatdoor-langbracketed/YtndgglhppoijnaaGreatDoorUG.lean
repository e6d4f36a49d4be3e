/-
  2 texts in one: what each proves stands at its head.
-/
import Derived.Test.YtndgglhppoijnaaGreatDoorMd
import Derived.Laws.BytesString
import Derived.Test.YtndgglhppoijnaaGreatDoorSj
import Derived.OwnWalk
import Derived.Laws.OwnMore
import Derived.Deep.RegionWith
/-
  The walk of signMark.
-/
namespace Go.Proofs.YtndgglhppoijnaaGreatDoor
open Go.RowKit
set_option maxRecDepth 100000

/-! ## Bytes read as a string -/
theorem fold_push (ns : List UInt8) : ∀ s : ByteArray, ((ns.map fun c => (c.toNat : Int)).foldl (fun r n => r.push (UInt8.ofNat n.toNat)) s) = s ++ bs ns := by
  induction ns with
  | nil => intro s; apply ByteArray.ext; simp [bs]
  | cons c ns ih =>
    intro s
    rw [List.map_cons, List.foldl_cons, ih]
    apply ByteArray.ext
    simp [bs, ByteArray.data_push, ByteArray.data_append]

theorem run_conv (w : World) (b o n c : Nat) (ns : List UInt8) (hn : ns.length = n) (h : ∀ t, t < n → w.cell? ⟨b, o + t, none⟩ = some (.int .u8 ((ns.getD t 0).toNat : Int))) :
    (convert 22 9 (.slice (some ⟨b, o, none⟩) n c)).run Tryz.prog w = .ok (.string (bs ns)) w := by
  rw [run_convert_bytes_string w 22 9 5 _ _ _ (by kernel_rfl) (by kernel_rfl) (by kernel_rfl)]
  have := run_bytesToString (P := Tryz.prog) w ⟨b, o, none⟩ n c (ns.map fun c => (c.toNat : Int)) (by
    have := run_loadCells_list (P := Tryz.prog) w ⟨b, o, none⟩ ((ns.map fun c => (c.toNat : Int)).map (Value.int .u8)) (by
      intro j v hj
      rw [Addr.add_mid]
      rw [List.map_map, List.getElem?_map] at hj
      cases hq : ns[j]? with
      | none => rw [hq] at hj; cases hj
      | some x =>
        rw [hq] at hj
        simp only [Option.map_some, Option.some.injEq] at hj
        subst hj
        have hl : j < n := by rw [← hn]; exact (List.getElem?_eq_some_iff.1 hq).1
        rw [h j hl, List.getD_eq_getElem?_getD, hq]
        rfl)
    simpa [hn] using this)
  rw [this, fold_push]
  rw [show ByteArray.empty ++ bs ns = bs ns by apply ByteArray.ext; simp]

/-- The conversion of bytes, as an operation. -/
theorem wp_conv {op : Oper} {a : Act} {w : World} {K : Act → World → Prop} {Q : Exit → Act → World → Prop} (x : Operand) (ho : op.op = .convert 22 9 x)
    (b o n c : Nat) (hx : a.eval x = .slice (some ⟨b, o, none⟩) n c) (ns : List UInt8) (hn : ns.length = n) (h : ∀ t, t < n → w.cell? ⟨b, o + t, none⟩ = some (.int .u8 ((ns.getD t 0).toNat : Int)))
    (hK : K (a.put op.dst (.string (bs ns))) w) : op.wp Tryz.prog a w K Q := by
  unfold Oper.wp execOp
  simp only [ho, hx, run_conv w b o n c ns hn h, Sem.run_bind, Sem.run_pure, Result.andThen_ok]
  exact hK

theorem wpList_conv {ops : Array Oper} {rest : List Oper} {op : Oper} {a : Act} {w : World} {Q : Exit → Act → World → Prop} (hgd : op.guard = none) (x : Operand) (ho : op.op = .convert 22 9 x)
    (b o n c : Nat) (hx : a.eval x = .slice (some ⟨b, o, none⟩) n c) (ns : List UInt8) (hn : ns.length = n) (h : ∀ t, t < n → w.cell? ⟨b, o + t, none⟩ = some (.int .u8 ((ns.getD t 0).toNat : Int)))
    (hK : wpList Tryz.prog ops Q rest (a.put op.dst (.string (bs ns))) w) : wpList Tryz.prog ops Q (op :: rest) a w :=
  wpList_plain hgd fun _ hK' => wp_conv x ho b o n c hx ns hn h (hK' _ _ hK)

/-! ## Signs -/
def fits (s L : List UInt8) : Bool := s.isPrefixOf L

theorem signL_find (c : UInt8) (r : List UInt8) : signL (c :: r) = (signsT.find? (fun s => fits s (c :: r))).getD [] := by
  by_cases h45 : c = 45
  · subst h45
    cases r with
    | nil => rfl
    | cons d r =>
      by_cases hd : d = 62
      · subst hd; rfl
      · have hd' : ¬ 62 = d := fun e => hd e.symm
        simp [signL, signsT, fits, List.find?, List.isPrefixOf, signsL, hd, hd']
  by_cases h61 : c = 61
  · subst h61
    cases r with
    | nil => rfl
    | cons d r =>
      by_cases hd : d = 61
      · subst hd; rfl
      · have hd' : (61 == d) = false := by rw [beq_eq_false_iff_ne]; exact fun e => hd e.symm
        simp [signL, signsT, fits, List.find?, List.isPrefixOf, signsL, hd, hd']
  have e1 : ∀ d : UInt8, fits [45, d] (c :: r) = false := by intro d; simp [fits, List.isPrefixOf]; intro e; exact absurd e.symm h45
  have e2 : ∀ d : UInt8, fits [61, d] (c :: r) = false := by intro d; simp [fits, List.isPrefixOf]; intro e; exact absurd e.symm h61
  have e3 : ∀ d : UInt8, fits [d] (c :: r) = (d == c) := by intro d; simp [fits, List.isPrefixOf]
  have e4 : signL (c :: r) = if signsL.contains c then [c] else [] := by unfold signL; dsimp only; rw [if_neg (by simp [h45, h61])]
  rw [e4]
  simp only [signsT, List.find?, e1, e2, e3]
  by_cases h : c ∈ signsL
  · simp only [signsL, List.mem_cons, List.not_mem_nil, or_false] at h
    rcases h with rfl | rfl | rfl | rfl | rfl | rfl | rfl | rfl | rfl | rfl | rfl | rfl <;> rfl
  · rw [if_neg (by simpa using h)]
    simp only [signsL, List.mem_cons, List.not_mem_nil, or_false, not_or] at h
    have f : ∀ d : UInt8, ¬ c = d → (d == c) = false := by intro d hd; rw [beq_eq_false_iff_ne]; exact fun e => hd e.symm
    obtain ⟨g1, g2, g3, g4, g5, g6, g7, g8, g9, g10, g11, g12⟩ := h
    rw [f 40 g1, f 41 g2, f 44 g3, f 58 g4, f 59 g5, f 61 g6, f 43 g7, f 45 g8, f 42 g9, f 47 g10, f 60 g11, f 124 g12]
    rfl

theorem sign_at {c : UInt8} {r : List UInt8} {i : Nat} (hi : i < 14) (hall : ∀ j, j < i → fits (signsT.getD j []) (c :: r) = false) (h : fits (signsT.getD i []) (c :: r) = true) : signL (c :: r) = signsT.getD i [] := by
  have hi' : i < signsT.length := hi
  have : signsT.find? (fun s => fits s (c :: r)) = some (signsT.getD i []) := by
    rw [List.find?_eq_some_iff_getElem]
    refine ⟨h, i, hi', by simp [List.getD_eq_getElem?_getD, hi'], fun j hj => ?_⟩
    have := hall j hj
    have hj' : j < signsT.length := by omega
    rw [List.getD_eq_getElem?_getD, List.getElem?_eq_getElem hj'] at this
    simpa using this
  rw [signL_find, this]
  rfl

theorem sign_no {c : UInt8} {r : List UInt8} (hall : ∀ j, j < 14 → fits (signsT.getD j []) (c :: r) = false) : signL (c :: r) = [] := by
  have : signsT.find? (fun s => fits s (c :: r)) = none := by
    rw [List.find?_eq_none]
    intro s hs
    obtain ⟨j, hj, e⟩ := List.mem_iff_getElem.1 hs
    have := hall j hj
    rw [List.getD_eq_getElem?_getD, List.getElem?_eq_getElem hj] at this
    simp at this
    rw [← e, this]
    simp
  rw [signL_find, this]
  rfl

theorem fits_iff {s L : List UInt8} : fits s L = decide (s.length ≤ L.length ∧ L.take s.length = s) := by
  rw [Bool.eq_iff_iff]
  unfold fits
  rw [List.isPrefixOf_iff_prefix, decide_eq_true_eq, List.prefix_iff_eq_take]
  constructor
  · intro h
    refine ⟨?_, h.symm⟩
    have := congrArg List.length h
    simp at this
    omega
  · intro h; exact h.2.symm

theorem Bd.cells {w : World} {b off : Nat} {l : List UInt8} (h : Bd w (some ⟨b, off, none⟩) l) : ∀ t, t < l.length → w.cell? ⟨b, off + t, none⟩ = some (.int .u8 ((l.getD t 0).toNat : Int)) := by
  intro t ht
  obtain ⟨b', off', e', hc⟩ := h.pl (by intro e; rw [e] at ht; simp at ht)
  simp only [Option.some.injEq, Addr.mk.injEq, and_true] at e'
  obtain ⟨rfl, rfl⟩ := e'
  exact hc t ht

theorem part_cells {w : World} {b off : Nat} {l : List UInt8} (hc : ∀ t, t < l.length → w.cell? ⟨b, off + t, none⟩ = some (.int .u8 ((l.getD t 0).toNat : Int))) (k n : Nat) (hk : k + n ≤ l.length) :
    ∀ t, t < n → w.cell? ⟨b, off + k + t, none⟩ = some (.int .u8 ((((l.drop k).take n).getD t 0).toNat : Int)) := by
  intro t ht
  rw [Nat.add_assoc, hc (k + t) (by omega)]
  congr 3
  simp [List.getD_eq_getElem?_getD, ht, List.getElem?_drop]

set_option maxHeartbeats 1000000 in
theorem signMark_any (b off cap : Nat) (l : List UInt8) (k : Nat) (hk : k < l.length) (hlen : l.length ≤ 16777216) (hcap : l.length ≤ cap) (w : World) (hG : Gl w) (hc : ∀ t, t < l.length → w.cell? ⟨b, off + t, none⟩ = some (.int .u8 ((l.getD t 0).toNat : Int))) :
    Calls Tryz.prog 31 #[.slice (some ⟨b, off, none⟩) l.length cap, .int .i64 k] w fun e w' => e = .returned (.tuple (optV (signM (l.drop k) k))) ∧ Below w.heap.size w w' := by
  obtain ⟨c, r, hL⟩ : ∃ c r, l.drop k = c :: r := by
    cases h : l.drop k with
    | nil => have := congrArg List.length h; simp at this; omega
    | cons c r => exact ⟨c, r, rfl⟩
  have hR := (hG.up (below_alloc w z4)).sgR
  have s1 := S4.new w (.int .i64 0) (.string ⟨#[]⟩) (.complex .f64 0 0) (.int .i64 0)
  have hb1 := below_alloc w z4
  have hc1 : ∀ t, t < l.length → (w.alloc z4).cell? ⟨b, off + t, none⟩ = some (.int .u8 ((l.getD t 0).toNat : Int)) := fun t ht => keep hb1 (hc t ht)
  clear hG hc
  go_enter Tryz.func31, Tryz.ntmps31
  go_wp2_with (refine wpList_load_mid rfl 104 (.global 0) rfl 0 0 rfl (signsT.map strV) _ hR Tryz.arrS rfl Tryz.arrSs ?_)
  have hA : ∀ k : Nat, k < 14 → (List.map strV signsT).toArray[k]? = some (.string (bs (signsT.getD k []))) := by
    intro k hk
    have hk' : k < signsT.length := hk
    simp [List.getD_eq_getElem?_getD, hk', strV]
  generalize (List.map strV signsT).toArray = A at *
  clear hR
  generalize hw1 : w.alloc z4 = w1 at *
  have HM : Hid (signM (l.drop k) k = if signL (c :: r) = [] then none else some ⟨3, signL (c :: r), 0, 0, k⟩) := by rw [hL]; rfl
  have HD : Hid (l.drop k = c :: r) := hL
  clear hL
  go_loop [10] (fun i => ∃ j : Nat, j ≤ 14 ∧ i = .int .i64 j ∧ Hid (∀ t, t < j → fits (signsT.getD t []) (c :: r) = false)) (fun i => 14 - (intOf i).toNat)
  case atStart => exact ⟨0, Nat.zero_le _, rfl, fun j hj => absurd hj (by omega)⟩
  case round =>
    obtain ⟨j, hj, rfl, hall⟩ := hrel
    by_cases hlt : j < 14
    · obtain ⟨x, hx⟩ : ∃ x, x = signsT.getD j [] := ⟨_, rfl⟩
      have ha := hA j hlt
      rw [← hx] at ha
      have HX : Hid (x = signsT.getD j []) := hx
      have hI := run_index_agg (P := Tryz.prog) (w := w1) 104 9 14 A j _ Tryz.arrS hlt (size_str w1) (agg_str w1) ha
      have hsz : (bs x).size ≤ 2 := by
        rw [bs_size, hx]
        have : ∀ s ∈ signsT, s.length ≤ 2 := by decide
        have hj' : j < signsT.length := hlt
        rw [List.getD_eq_getElem?_getD, List.getElem?_eq_getElem hj']
        exact this _ (List.getElem_mem _)
      clear hx hA ha
      by_cases hfit : k + (bs x).size ≤ l.length
      · have hp := part_cells hc1 k (bs x).size hfit
        have hpl : ((l.drop k).take (bs x).size).length = (bs x).size := by simp; omega
        have hcv := run_conv w1 b (off + k) (bs x).size (cap - k) _ hpl hp
        have HT : Hid ((l.drop k).take (bs x).size = (c :: r).take x.length) := by rw [bs_size, show l.drop k = _ from HD]; rfl
        have hln : x.length ≤ (c :: r).length := by
          have := congrArg List.length (show l.drop k = _ from HD)
          rw [List.length_drop] at this
          rw [bs_size] at hfit
          omega
        generalize (l.drop k).take (bs x).size = T at *
        clear hp hpl
        by_cases he : T = x
        · subst he
          have h1 : ((bs T).toList == (bs T).toList) = true := by simp
          go_wp2_with (refine wpList_store4 rfl (.tmp 4) (.tmp 32) rfl w.heap.size _ _ _ _ rfl rfl s1 ⟨rfl, rfl, rfl, rfl⟩ ?_; intro w2 s7 oth2; obtain ⟨q0, q1, q2, q3⟩ := s7.cells)
          refine bodyPost_ret (v := .tuple #[mkV ⟨3, T, 0, 0, k⟩, .bool true]) (by simp [results, Tryz.results31, go_sem, q0, q1, q2, q3, mkV, fl_zero]) rfl ⟨?_, ?_⟩
          · have e1 : fits (signsT.getD j []) (c :: r) = true := by
              rw [← show T = _ from HX, fits_iff, decide_eq_true_eq]
              exact ⟨hln, (show T = _ from HT).symm⟩
            have e2 := sign_at hlt (show ∀ t, t < j → _ from hall) e1
            rw [← show T = _ from HX] at e2
            have e3 : T ≠ [] := by
              rw [show T = _ from HX]
              have hj' : j < signsT.length := hlt
              have : ∀ s ∈ signsT, s ≠ [] := by decide
              rw [List.getD_eq_getElem?_getD, List.getElem?_eq_getElem hj']
              exact this _ (List.getElem_mem _)
            rw [show signM (l.drop k) k = _ from HM, e2, if_neg e3]
            rfl
          · exact hb1.trans (oth2.below (Nat.le_refl _))
        · have h1 : ((bs T).toList == (bs x).toList) = false := by rw [bs_toList, bs_toList, beq_eq_false_iff_ne]; exact he
          go_wp2
          go_round
          case rel =>
            refine ⟨j + 1, by omega, by go_num, fun t ht => ?_⟩
            rcases Nat.lt_or_ge t j with h | h
            · exact (show ∀ t, t < j → _ from hall) t h
            · have e : t = j := by omega
              rw [e, ← show x = _ from HX, fits_iff, decide_eq_false_iff_not]
              intro h
              exact he ((show T = _ from HT).trans h.2)
          case measure => simp [intOf]; omega
      · have hnf : fits x (c :: r) = false := by
          rw [fits_iff, decide_eq_false_iff_not]
          intro h
          have := congrArg List.length (show l.drop k = _ from HD)
          rw [List.length_drop] at this
          rw [bs_size] at hfit
          omega
        go_wp2
        go_round
        case rel =>
          refine ⟨j + 1, by omega, by go_num, fun t ht => ?_⟩
          rcases Nat.lt_or_ge t j with h | h
          · exact (show ∀ t, t < j → _ from hall) t h
          · have e : t = j := by omega
            rw [e, ← show x = _ from HX]
            exact hnf
        case measure => simp [intOf]; omega
    · have hje : j = 14 := by omega
      subst hje
      go_wp2_with (refine wpList_store4 rfl (.tmp 4) (.tmp 34) rfl w.heap.size _ _ _ _ rfl rfl s1 ⟨rfl, rfl, rfl, rfl⟩ ?_; intro w2 s7 oth2; obtain ⟨q0, q1, q2, q3⟩ := s7.cells)
      refine bodyPost_ret (v := .tuple #[mk0, .bool false]) (by simp [results, Tryz.results31, go_sem, q0, q1, q2, q3, mk0]) rfl ⟨?_, ?_⟩
      · rw [show signM (l.drop k) k = _ from HM, sign_no (show ∀ t, t < 14 → _ from hall)]
        rfl
      · exact hb1.trans (oth2.below (Nat.le_refl _))
end Go.Proofs.YtndgglhppoijnaaGreatDoor
/-
  What the walk of Marks holds in memory: the marks so far, the fault, the mark at hand.
-/
namespace Go.Proofs.YtndgglhppoijnaaGreatDoor
open Go.RowKit
set_option maxRecDepth 100000

/-- A mark's cells. -/
def mkC (m : Mk) : List Value := [.int .i64 m.kind, .string (bs m.text), .complex .f64 (fl m.p) (fl m.q), .int .i64 m.at_]
def mksC (ms : List Mk) : List Value := ms.flatMap mkC

theorem mksC_len (ms : List Mk) : (mksC ms).length = ms.length * 4 := by
  induction ms with
  | nil => rfl
  | cons m ms ih => unfold mksC at *; rw [List.flatMap_cons, List.length_append, ih]; simp [mkC]; omega
theorem mksC_app (a b : List Mk) : mksC (a ++ b) = mksC a ++ mksC b := by simp [mksC]

theorem mkV_eq (m : Mk) : mkV m = .agg (mkC m).toArray := rfl

theorem Tryz.infoMk : (Tryz.prog.info? 85).map (fun i => (i.zero, i.size, i.bytes)) = some (some (.agg #[.int .i64 0, .string ⟨#[]⟩, .complex .f64 0 0, .int .i64 0]), 4, 48) := by kernel_rfl
theorem Tryz.underMs : Tryz.prog.underlying 60 = some (.slice 85) := by kernel_rfl

/-- Block b holds a fault. -/
def S2 (w : World) (b : Nat) (x y : Value) : Prop := w.heap[b]? = some (.cells #[x, y] 32 (0, 0))
theorem S2.lt {w : World} {b : Nat} {x y : Value} (h : S2 w b x y) : b < w.heap.size := by
  rcases Nat.lt_or_ge b w.heap.size with k | k
  · exact k
  · unfold S2 at h; rw [Array.getElem?_eq_none k] at h; cases h
theorem S2.cells {w : World} {b : Nat} {x y : Value} (h : S2 w b x y) : w.cell? ⟨b, 0, none⟩ = some x ∧ w.cell? ⟨b, 1, none⟩ = some y ∧ w.frozen? ⟨b, 0, none⟩ = false ∧ w.frozen? ⟨b, 1, none⟩ = false := by
  refine ⟨?_, ?_, ?_, ?_⟩
  · rw [cell_of_row w _ 0 _ _ _ h]; rfl
  · rw [cell_of_row w _ 1 _ _ _ h]; rfl
  · exact frozen_of_row w _ 0 _ _ h
  · exact frozen_of_row w _ 1 _ _ h
theorem S2.to {w w' : World} {b B : Nat} {x y : Value} (h : S2 w b x y) (hl : b < B) (hb : Below B w w') : S2 w' b x y := by
  unfold S2; rw [hb.block b hl]; exact h
theorem S2.new (w : World) (x y : Value) : S2 (w.alloc (.cells #[x, y] 32)) w.heap.size x y := heap_alloc_new w _

theorem S2.set0 {w : World} {b : Nat} {x y : Value} (h : S2 w b x y) (v : Value) : S2 (w.setCell ⟨b, 0, none⟩ v) b v y := by unfold S2; rw [heap_setCell_same w b 0 _ _ _ h]; rfl
theorem S2.set1 {w : World} {b : Nat} {x y : Value} (h : S2 w b x y) (v : Value) : S2 (w.setCell ⟨b, 1, none⟩ v) b x v := by unfold S2; rw [heap_setCell_same w b 1 _ _ _ h]; rfl
theorem S2.there {w : World} {b : Nat} {x y : Value} (h : S2 w b x y) : w.there b 0 2 := by
  intro j hj
  obtain ⟨c0, c1, f0, f1⟩ := h.cells
  rw [Nat.zero_add]
  match j, hj with
  | 0, _ => exact ⟨by rw [c0]; rfl, f0⟩
  | 1, _ => exact ⟨by rw [c1]; rfl, f1⟩

theorem Tryz.infoF : (Tryz.prog.info? 32).map (·.size) = some 2 := by kernel_rfl

/-- A fault stored whole into a variable. -/
theorem wpList_store2 {ops : Array Oper} {rest : List Oper} {op : Oper} {a : Act} {w : World} {Q : Exit → Act → World → Prop} (hgd : op.guard = none) (x y : Operand) (ho : op.op = .store 32 x y)
    (b : Nat) (p q : Value) (hx : a.eval x = .pointer (some ⟨b, 0, none⟩)) (hy : a.eval y = .agg #[p, q]) {x0 y0 : Value} (hS : S2 w b x0 y0)
    (h1 : p.oneCell' = true ∧ q.oneCell' = true) (h : ∀ w', S2 w' b p q → Oth b w w' → wpList Tryz.prog ops Q rest (a.put op.dst undef) w') : wpList Tryz.prog ops Q (op :: rest) a w :=
  wpList_store_mid hgd 32 x y ho b 0 #[p, q] hx hy hS.there Tryz.infoF
    (all_oneCell_toArray (cs := [p, q]) (by intro v hv; simp only [List.mem_cons, List.not_mem_nil, or_false] at hv; rcases hv with rfl | rfl <;> first | exact h1.1 | exact h1.2))
    (h _ ((hS.set0 p).set1 q) (((Oth.refl b w).set 0 p).set 1 q))

theorem owns_up {w w' : World} {B : Nat} {v : Value} {n : Nat} {xs : List Value} (h : w.ownsRow B 85 4 v n xs) (hb : Below w.heap.size w w') : w'.ownsRow B 85 4 v n xs := by
  refine ⟨h.1, ?_⟩
  rcases h.2 with h' | ⟨g, cap, cur, h1, h2, h3, h4⟩
  · exact .inl h'
  · refine .inr ⟨g, cap, cur, h1, h2, ?_, h4⟩
    rw [hb.block g ?_]
    · exact h3
    · rcases Nat.lt_or_ge g w.heap.size with k | k
      · exact k
      · rw [Array.getElem?_eq_none k] at h3; cases h3

theorem owns_low {w : World} {B : Nat} {v : Value} {n : Nat} {xs : List Value} (h : w.ownsRow B 85 4 v n xs) : ∀ k, v.ownBlock = some k → B ≤ k := by
  intro k hk
  rcases h.2 with ⟨rfl, _⟩ | ⟨g, cap, cur, rfl, h2, _⟩
  · simp [Value.ownBlock] at hk
  · simp [Value.ownBlock] at hk; omega

/-- What Marks holds in memory between its states. -/
structure Ws (w0 w : World) (v : Value) (ms : List Mk) : Prop where
  bel : Below w0.heap.size w0 w
  own : w.ownsRow (w0.heap.size + 2) 85 4 v ms.length (mksC ms)
  ft : S2 w w0.heap.size (.int .i64 0) (.int .i64 0)
  mv : ∃ p q r s, S4 w (w0.heap.size + 1) p q r s

theorem Ws.up {w0 w w' : World} {v : Value} {ms : List Mk} (h : Ws w0 w v ms) (hb : Below w.heap.size w w') : Ws w0 w' v ms := by
  obtain ⟨p, q, r, s, h4⟩ := h.mv
  exact ⟨Below.thn h.bel hb, owns_up h.own hb, h.ft.to h.ft.lt hb, p, q, r, s, h4.up hb⟩

theorem Ws.oth {w0 w w' : World} {v : Value} {ms : List Mk} (h : Ws w0 w v ms) (ho : Oth (w0.heap.size + 1) w w') {p q r s : Value} (h4 : S4 w' (w0.heap.size + 1) p q r s) : Ws w0 w' v ms := by
  refine ⟨h.bel.trans (ho.below (Nat.le_succ _)), ⟨h.own.1, ?_⟩, ?_, p, q, r, s, h4⟩
  · rcases h.own.2 with h' | ⟨g, cap, cur, h1, h2, h3, h5⟩
    · exact .inl h'
    · exact .inr ⟨g, cap, cur, h1, h2, by rw [ho.block g (by omega)]; exact h3, h5⟩
  · have := h.ft
    unfold S2 at *
    rw [ho.block _ (by omega)]
    exact this

theorem Ws.lt {w0 w : World} {v : Value} {ms : List Mk} (h : Ws w0 w v ms) : w0.heap.size + 2 ≤ w.heap.size := by
  obtain ⟨p, q, r, s, h4⟩ := h.mv
  exact h4.lt

/-- A mark laid as a slice of one, ready to be appended. -/
theorem new4 (w : World) (cs : List Value) (t : TypeId) : ∀ j u, cs[j]? = some u → (w.alloc (.cells cs.toArray t)).cell? ((⟨w.heap.size, 0, none⟩ : Addr).add j) = some u := by
  intro j u hj
  rw [Addr.add_mid, Nat.zero_add, cell_of_row _ _ j _ _ _ (heap_alloc_new w (.cells cs.toArray t))]
  simpa using hj

theorem mkC_end (k : Nat) : mkC (endM k) = [.int .i64 4, .string ⟨#[]⟩, .complex .f64 0 0, .int .i64 k] := by
  unfold mkC endM
  rw [fl_zero]
  rfl

theorem one4c (x : Int) (s : ByteArray) (p q : Nat) (y : Int) : ∀ u ∈ [Value.int .i64 x, .string s, .complex .f64 p q, .int .i64 y], u.oneCell' = true := by
  intro u hu
  simp only [List.mem_cons, List.not_mem_nil, or_false] at hu
  rcases hu with rfl | rfl | rfl | rfl <;> rfl

theorem one4 (m : Mk) : ∀ u ∈ mkC m, u.oneCell' = true := by
  intro u hu
  simp only [mkC, List.mem_cons, List.not_mem_nil, or_false] at hu
  rcases hu with rfl | rfl | rfl | rfl <;> rfl

/-- The world behind an append. -/
theorem Ws.app {w0 w w' : World} {v v' : Value} {ms : List Mk} {cs : List Value} (m : Mk) (hm : mkC m = cs) (h : Ws w0 w v ms) (hown : w'.ownsRow (w0.heap.size + 2) 85 4 v' (ms.length + 1) (mksC ms ++ cs)) (hg : w.grownBy w' v.ownBlock) : Ws w0 w' v' (ms ++ [m]) := by
  subst hm
  have hb : Below (w0.heap.size + 2) w w' := (Below.refl _ w).grown hg h.lt (owns_low h.own)
  obtain ⟨p, q, r, s, h4⟩ := h.mv
  refine ⟨h.bel.trans (hb.mono (by omega)), ?_, h.ft.to (by omega) hb, p, q, r, s, h4.to (by omega) hb⟩
  rw [mksC_app]
  simpa [mksC] using hown

/-- The answer of marks, behind the fault's cells. -/
theorem Ws.done {w0 w w' : World} {v : Value} {ms : List Mk} (h : Ws w0 w v ms) (ho : Oth w0.heap.size w w') : w'.ownsRow w0.heap.size 85 4 v ms.length (mksC ms) ∧ Below w0.heap.size w0 w' := by
  refine ⟨⟨h.own.1, ?_⟩, h.bel.trans (ho.below (Nat.le_refl _))⟩
  rcases h.own.2 with h' | ⟨g, cap, cur, h1, h2, h3, h5⟩
  · exact .inl h'
  · exact .inr ⟨g, cap, cur, h1, by omega, by rw [ho.block g (by omega)]; exact h3, h5⟩

/-- The act between two states. -/
def MJ (T F M v : Value) (k fr : Nat) (a : Act) : Prop := ∃ U : Nat → Value, a = { tmps := #[T, U 1, .slice none 0 0, F, v, M, U 6, .int .i64 k, .int .i64 fr, U 9, U 10, U 11, U 12, U 13, U 14, U 15, U 16, U 17, U 18, U 19, U 20, U 21, U 22, U 23, U 24, U 25, U 26, U 27, U 28, U 29, U 30, U 31, U 32, U 33, U 34, U 35, U 36, U 37, U 38, U 39, U 40, U 41, U 42, U 43, U 44, U 45, U 46, U 47, U 48, U 49, U 50, U 51, U 52, U 53, U 54, U 55, U 56, U 57, U 58, U 59, U 60, U 61, U 62, U 63, U 64, U 65, U 66, U 67, U 68, U 69, U 70, U 71, U 72, U 73, U 74, U 75, U 76, U 77, U 78, U 79, U 80, U 81, U 82, U 83, U 84, U 85, U 86, U 87, U 88, U 89, U 90, U 91, U 92, U 93, U 94, U 95, U 96, U 97, U 98, U 99, U 100], defers := [] }

theorem MJ.mk {T F M v : Value} {k fr : Nat} {u1 u6 u9 u10 u11 u12 u13 u14 u15 u16 u17 u18 u19 u20 u21 u22 u23 u24 u25 u26 u27 u28 u29 u30 u31 u32 u33 u34 u35 u36 u37 u38 u39 u40 u41 u42 u43 u44 u45 u46 u47 u48 u49 u50 u51 u52 u53 u54 u55 u56 u57 u58 u59 u60 u61 u62 u63 u64 u65 u66 u67 u68 u69 u70 u71 u72 u73 u74 u75 u76 u77 u78 u79 u80 u81 u82 u83 u84 u85 u86 u87 u88 u89 u90 u91 u92 u93 u94 u95 u96 u97 u98 u99 u100 : Value} : MJ T F M v k fr { tmps := #[T, u1, .slice none 0 0, F, v, M, u6, .int .i64 k, .int .i64 fr, u9, u10, u11, u12, u13, u14, u15, u16, u17, u18, u19, u20, u21, u22, u23, u24, u25, u26, u27, u28, u29, u30, u31, u32, u33, u34, u35, u36, u37, u38, u39, u40, u41, u42, u43, u44, u45, u46, u47, u48, u49, u50, u51, u52, u53, u54, u55, u56, u57, u58, u59, u60, u61, u62, u63, u64, u65, u66, u67, u68, u69, u70, u71, u72, u73, u74, u75, u76, u77, u78, u79, u80, u81, u82, u83, u84, u85, u86, u87, u88, u89, u90, u91, u92, u93, u94, u95, u96, u97, u98, u99, u100], defers := [] } :=
  ⟨fun i => (#[T, u1, .slice none 0 0, F, v, M, u6, .int .i64 k, .int .i64 fr, u9, u10, u11, u12, u13, u14, u15, u16, u17, u18, u19, u20, u21, u22, u23, u24, u25, u26, u27, u28, u29, u30, u31, u32, u33, u34, u35, u36, u37, u38, u39, u40, u41, u42, u43, u44, u45, u46, u47, u48, u49, u50, u51, u52, u53, u54, u55, u56, u57, u58, u59, u60, u61, u62, u63, u64, u65, u66, u67, u68, u69, u70, u71, u72, u73, u74, u75, u76, u77, u78, u79, u80, u81, u82, u83, u84, u85, u86, u87, u88, u89, u90, u91, u92, u93, u94, u95, u96, u97, u98, u99, u100] : Array Value).getD i undef, rfl⟩

def atOf (a : Act) : Nat := (intOf (a.tmps.getD 7 undef)).toNat

theorem MJ.at {T F M v : Value} {k fr : Nat} {a : Act} (h : MJ T F M v k fr a) : atOf a = k := by
  obtain ⟨U, rfl⟩ := h
  rfl

theorem mu_lt {T F M v : Value} {k fr : Nat} {a a' : Act} {f g : Nat → Nat} {j : Nat} (h : MJ T F M v k fr a') (ha : atOf a = j) (hlt : f k < g j) : f (atOf a') < g (atOf a) := by
  rw [h.at, ha]; exact hlt
end Go.Proofs.YtndgglhppoijnaaGreatDoor
