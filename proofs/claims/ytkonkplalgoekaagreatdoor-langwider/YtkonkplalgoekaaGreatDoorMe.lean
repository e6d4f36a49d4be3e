/-
  The walk of signMark.
-/
import Derived.Test.YtkonkplalgoekaaGreatDoorMd
import Derived.Laws.BytesString
namespace Go.Proofs.YtkonkplalgoekaaGreatDoor
open Go.RowKit
set_option maxRecDepth 100000

/-! ## Bytes read as a string -/
theorem fold_push (ns : List UInt8) : ∀ s : ByteArray, ((ns.map fun c => (c.toNat : Int)).foldl (fun r n => r.push (UInt8.ofNat n.toNat)) s) = s ++ bs ns := by
  induction ns with
  | nil => intro s; apply ByteArray.ext; simp [bs]
  | cons c ns ih =>
    intro s
    rw [List.map_cons, List.foldl_cons, ih]
    apply ByteArray.ext
    simp [bs, ByteArray.data_push, ByteArray.data_append]

theorem run_conv (w : World) (b o n c : Nat) (ns : List UInt8) (hn : ns.length = n) (h : ∀ t, t < n → w.cell? ⟨b, o + t, none⟩ = some (.int .u8 ((ns.getD t 0).toNat : Int))) :
    (convert 22 9 (.slice (some ⟨b, o, none⟩) n c)).run Tryz.prog w = .ok (.string (bs ns)) w := by
  rw [run_convert_bytes_string w 22 9 5 _ _ _ (by kernel_rfl) (by kernel_rfl) (by kernel_rfl)]
  have := run_bytesToString (P := Tryz.prog) w ⟨b, o, none⟩ n c (ns.map fun c => (c.toNat : Int)) (by
    have := run_loadCells_list (P := Tryz.prog) w ⟨b, o, none⟩ ((ns.map fun c => (c.toNat : Int)).map (Value.int .u8)) (by
      intro j v hj
      rw [Addr.add_mid]
      rw [List.map_map, List.getElem?_map] at hj
      cases hq : ns[j]? with
      | none => rw [hq] at hj; cases hj
      | some x =>
        rw [hq] at hj
        simp only [Option.map_some, Option.some.injEq] at hj
        subst hj
        have hl : j < n := by rw [← hn]; exact (List.getElem?_eq_some_iff.1 hq).1
        rw [h j hl, List.getD_eq_getElem?_getD, hq]
        rfl)
    simpa [hn] using this)
  rw [this, fold_push]
  rw [show ByteArray.empty ++ bs ns = bs ns by apply ByteArray.ext; simp]

/-- The conversion of bytes, as an operation. -/
theorem wp_conv {op : Oper} {a : Act} {w : World} {K : Act → World → Prop} {Q : Exit → Act → World → Prop} (x : Operand) (ho : op.op = .convert 22 9 x)
    (b o n c : Nat) (hx : a.eval x = .slice (some ⟨b, o, none⟩) n c) (ns : List UInt8) (hn : ns.length = n) (h : ∀ t, t < n → w.cell? ⟨b, o + t, none⟩ = some (.int .u8 ((ns.getD t 0).toNat : Int)))
    (hK : K (a.put op.dst (.string (bs ns))) w) : op.wp Tryz.prog a w K Q := by
  unfold Oper.wp execOp
  simp only [ho, hx, run_conv w b o n c ns hn h, Sem.run_bind, Sem.run_pure, Result.andThen_ok]
  exact hK

theorem wpList_conv {ops : Array Oper} {rest : List Oper} {op : Oper} {a : Act} {w : World} {Q : Exit → Act → World → Prop} (hgd : op.guard = none) (x : Operand) (ho : op.op = .convert 22 9 x)
    (b o n c : Nat) (hx : a.eval x = .slice (some ⟨b, o, none⟩) n c) (ns : List UInt8) (hn : ns.length = n) (h : ∀ t, t < n → w.cell? ⟨b, o + t, none⟩ = some (.int .u8 ((ns.getD t 0).toNat : Int)))
    (hK : wpList Tryz.prog ops Q rest (a.put op.dst (.string (bs ns))) w) : wpList Tryz.prog ops Q (op :: rest) a w :=
  wpList_plain hgd fun _ hK' => wp_conv x ho b o n c hx ns hn h (hK' _ _ hK)

/-! ## Signs -/
def fits (s L : List UInt8) : Bool := s.isPrefixOf L

theorem signL_find (c : UInt8) (r : List UInt8) : signL (c :: r) = (signsT.find? (fun s => fits s (c :: r))).getD [] := by
  by_cases h45 : c = 45
  · subst h45
    cases r with
    | nil => rfl
    | cons d r =>
      by_cases hd : d = 62
      · subst hd; rfl
      · have hd' : ¬ 62 = d := fun e => hd e.symm
        simp [signL, signsT, fits, List.find?, List.isPrefixOf, signsL, hd, hd']
  by_cases h61 : c = 61
  · subst h61
    cases r with
    | nil => rfl
    | cons d r =>
      by_cases hd : d = 61
      · subst hd; rfl
      · have hd' : (61 == d) = false := by rw [beq_eq_false_iff_ne]; exact fun e => hd e.symm
        simp [signL, signsT, fits, List.find?, List.isPrefixOf, signsL, hd, hd']
  have e1 : ∀ d : UInt8, fits [45, d] (c :: r) = false := by intro d; simp [fits, List.isPrefixOf]; intro e; exact absurd e.symm h45
  have e2 : ∀ d : UInt8, fits [61, d] (c :: r) = false := by intro d; simp [fits, List.isPrefixOf]; intro e; exact absurd e.symm h61
  have e3 : ∀ d : UInt8, fits [d] (c :: r) = (d == c) := by intro d; simp [fits, List.isPrefixOf]
  have e4 : signL (c :: r) = if signsL.contains c then [c] else [] := by unfold signL; dsimp only; rw [if_neg (by simp [h45, h61])]
  rw [e4]
  simp only [signsT, List.find?, e1, e2, e3]
  by_cases h : c ∈ signsL
  · simp only [signsL, List.mem_cons, List.not_mem_nil, or_false] at h
    rcases h with rfl | rfl | rfl | rfl | rfl | rfl | rfl | rfl | rfl | rfl | rfl | rfl <;> rfl
  · rw [if_neg (by simpa using h)]
    simp only [signsL, List.mem_cons, List.not_mem_nil, or_false, not_or] at h
    have f : ∀ d : UInt8, ¬ c = d → (d == c) = false := by intro d hd; rw [beq_eq_false_iff_ne]; exact fun e => hd e.symm
    obtain ⟨g1, g2, g3, g4, g5, g6, g7, g8, g9, g10, g11, g12⟩ := h
    rw [f 40 g1, f 41 g2, f 44 g3, f 58 g4, f 59 g5, f 61 g6, f 43 g7, f 45 g8, f 42 g9, f 47 g10, f 60 g11, f 124 g12]
    rfl

theorem sign_at {c : UInt8} {r : List UInt8} {i : Nat} (hi : i < 14) (hall : ∀ j, j < i → fits (signsT.getD j []) (c :: r) = false) (h : fits (signsT.getD i []) (c :: r) = true) : signL (c :: r) = signsT.getD i [] := by
  have hi' : i < signsT.length := hi
  have : signsT.find? (fun s => fits s (c :: r)) = some (signsT.getD i []) := by
    rw [List.find?_eq_some_iff_getElem]
    refine ⟨h, i, hi', by simp [List.getD_eq_getElem?_getD, hi'], fun j hj => ?_⟩
    have := hall j hj
    have hj' : j < signsT.length := by omega
    rw [List.getD_eq_getElem?_getD, List.getElem?_eq_getElem hj'] at this
    simpa using this
  rw [signL_find, this]
  rfl

theorem sign_no {c : UInt8} {r : List UInt8} (hall : ∀ j, j < 14 → fits (signsT.getD j []) (c :: r) = false) : signL (c :: r) = [] := by
  have : signsT.find? (fun s => fits s (c :: r)) = none := by
    rw [List.find?_eq_none]
    intro s hs
    obtain ⟨j, hj, e⟩ := List.mem_iff_getElem.1 hs
    have := hall j hj
    rw [List.getD_eq_getElem?_getD, List.getElem?_eq_getElem hj] at this
    simp at this
    rw [← e, this]
    simp
  rw [signL_find, this]
  rfl

theorem fits_iff {s L : List UInt8} : fits s L = decide (s.length ≤ L.length ∧ L.take s.length = s) := by
  rw [Bool.eq_iff_iff]
  unfold fits
  rw [List.isPrefixOf_iff_prefix, decide_eq_true_eq, List.prefix_iff_eq_take]
  constructor
  · intro h
    refine ⟨?_, h.symm⟩
    have := congrArg List.length h
    simp at this
    omega
  · intro h; exact h.2.symm

theorem Bd.cells {w : World} {b off : Nat} {l : List UInt8} (h : Bd w (some ⟨b, off, none⟩) l) : ∀ t, t < l.length → w.cell? ⟨b, off + t, none⟩ = some (.int .u8 ((l.getD t 0).toNat : Int)) := by
  intro t ht
  obtain ⟨b', off', e', hc⟩ := h.pl (by intro e; rw [e] at ht; simp at ht)
  simp only [Option.some.injEq, Addr.mk.injEq, and_true] at e'
  obtain ⟨rfl, rfl⟩ := e'
  exact hc t ht

theorem part_cells {w : World} {b off : Nat} {l : List UInt8} (hc : ∀ t, t < l.length → w.cell? ⟨b, off + t, none⟩ = some (.int .u8 ((l.getD t 0).toNat : Int))) (k n : Nat) (hk : k + n ≤ l.length) :
    ∀ t, t < n → w.cell? ⟨b, off + k + t, none⟩ = some (.int .u8 ((((l.drop k).take n).getD t 0).toNat : Int)) := by
  intro t ht
  rw [Nat.add_assoc, hc (k + t) (by omega)]
  congr 3
  simp [List.getD_eq_getElem?_getD, ht, List.getElem?_drop]

set_option maxHeartbeats 1000000 in
theorem signMark_any (b off cap : Nat) (l : List UInt8) (k : Nat) (hk : k < l.length) (hlen : l.length ≤ 16777216) (hcap : l.length ≤ cap) (w : World) (hG : Gl w) (hc : ∀ t, t < l.length → w.cell? ⟨b, off + t, none⟩ = some (.int .u8 ((l.getD t 0).toNat : Int))) :
    Calls Tryz.prog 25 #[.slice (some ⟨b, off, none⟩) l.length cap, .int .i64 k] w fun e w' => e = .returned (.tuple (optV (signM (l.drop k) k))) ∧ Below w.heap.size w w' := by
  obtain ⟨c, r, hL⟩ : ∃ c r, l.drop k = c :: r := by
    cases h : l.drop k with
    | nil => have := congrArg List.length h; simp at this; omega
    | cons c r => exact ⟨c, r, rfl⟩
  have hR := (hG.up (below_alloc w z4)).sgR
  have s1 := S4.new w (.int .i64 0) (.string ⟨#[]⟩) (.complex .f64 0 0) (.int .i64 0)
  have hb1 := below_alloc w z4
  have hc1 : ∀ t, t < l.length → (w.alloc z4).cell? ⟨b, off + t, none⟩ = some (.int .u8 ((l.getD t 0).toNat : Int)) := fun t ht => keep hb1 (hc t ht)
  clear hG hc
  go_enter Tryz.func25, Tryz.ntmps25
  go_wp2_with (refine wpList_load_mid rfl 81 (.global 0) rfl 0 0 rfl (signsT.map strV) _ hR Tryz.arrS rfl Tryz.arrSs ?_)
  have hA : ∀ k : Nat, k < 14 → (List.map strV signsT).toArray[k]? = some (.string (bs (signsT.getD k []))) := by
    intro k hk
    have hk' : k < signsT.length := hk
    simp [List.getD_eq_getElem?_getD, hk', strV]
  generalize (List.map strV signsT).toArray = A at *
  clear hR
  generalize hw1 : w.alloc z4 = w1 at *
  have HM : Hid (signM (l.drop k) k = if signL (c :: r) = [] then none else some ⟨3, signL (c :: r), 0, 0, k⟩) := by rw [hL]; rfl
  have HD : Hid (l.drop k = c :: r) := hL
  clear hL
  go_loop [10] (fun i => ∃ j : Nat, j ≤ 14 ∧ i = .int .i64 j ∧ Hid (∀ t, t < j → fits (signsT.getD t []) (c :: r) = false)) (fun i => 14 - (intOf i).toNat)
  case atStart => exact ⟨0, Nat.zero_le _, rfl, fun j hj => absurd hj (by omega)⟩
  case round =>
    obtain ⟨j, hj, rfl, hall⟩ := hrel
    by_cases hlt : j < 14
    · obtain ⟨x, hx⟩ : ∃ x, x = signsT.getD j [] := ⟨_, rfl⟩
      have ha := hA j hlt
      rw [← hx] at ha
      have HX : Hid (x = signsT.getD j []) := hx
      have hI := run_index_agg (P := Tryz.prog) (w := w1) 81 9 14 A j _ Tryz.arrS hlt (size_str w1) (agg_str w1) ha
      have hsz : (bs x).size ≤ 2 := by
        rw [bs_size, hx]
        have : ∀ s ∈ signsT, s.length ≤ 2 := by decide
        have hj' : j < signsT.length := hlt
        rw [List.getD_eq_getElem?_getD, List.getElem?_eq_getElem hj']
        exact this _ (List.getElem_mem _)
      clear hx hA ha
      by_cases hfit : k + (bs x).size ≤ l.length
      · have hp := part_cells hc1 k (bs x).size hfit
        have hpl : ((l.drop k).take (bs x).size).length = (bs x).size := by simp; omega
        have hcv := run_conv w1 b (off + k) (bs x).size (cap - k) _ hpl hp
        have HT : Hid ((l.drop k).take (bs x).size = (c :: r).take x.length) := by rw [bs_size, show l.drop k = _ from HD]; rfl
        have hln : x.length ≤ (c :: r).length := by
          have := congrArg List.length (show l.drop k = _ from HD)
          rw [List.length_drop] at this
          rw [bs_size] at hfit
          omega
        generalize (l.drop k).take (bs x).size = T at *
        clear hp hpl
        by_cases he : T = x
        · subst he
          have h1 : ((bs T).toList == (bs T).toList) = true := by simp
          go_wp2_with (refine wpList_store4 rfl (.tmp 4) (.tmp 32) rfl w.heap.size _ _ _ _ rfl rfl s1 ⟨rfl, rfl, rfl, rfl⟩ ?_; intro w2 s7 oth2; obtain ⟨q0, q1, q2, q3⟩ := s7.cells)
          refine bodyPost_ret (v := .tuple #[mkV ⟨3, T, 0, 0, k⟩, .bool true]) (by simp [results, Tryz.results25, go_sem, q0, q1, q2, q3, mkV, fl_zero]) rfl ⟨?_, ?_⟩
          · have e1 : fits (signsT.getD j []) (c :: r) = true := by
              rw [← show T = _ from HX, fits_iff, decide_eq_true_eq]
              exact ⟨hln, (show T = _ from HT).symm⟩
            have e2 := sign_at hlt (show ∀ t, t < j → _ from hall) e1
            rw [← show T = _ from HX] at e2
            have e3 : T ≠ [] := by
              rw [show T = _ from HX]
              have hj' : j < signsT.length := hlt
              have : ∀ s ∈ signsT, s ≠ [] := by decide
              rw [List.getD_eq_getElem?_getD, List.getElem?_eq_getElem hj']
              exact this _ (List.getElem_mem _)
            rw [show signM (l.drop k) k = _ from HM, e2, if_neg e3]
            rfl
          · exact hb1.trans (oth2.below (Nat.le_refl _))
        · have h1 : ((bs T).toList == (bs x).toList) = false := by rw [bs_toList, bs_toList, beq_eq_false_iff_ne]; exact he
          go_wp2
          go_round
          case rel =>
            refine ⟨j + 1, by omega, by go_num, fun t ht => ?_⟩
            rcases Nat.lt_or_ge t j with h | h
            · exact (show ∀ t, t < j → _ from hall) t h
            · have e : t = j := by omega
              rw [e, ← show x = _ from HX, fits_iff, decide_eq_false_iff_not]
              intro h
              exact he ((show T = _ from HT).trans h.2)
          case measure => simp [intOf]; omega
      · have hnf : fits x (c :: r) = false := by
          rw [fits_iff, decide_eq_false_iff_not]
          intro h
          have := congrArg List.length (show l.drop k = _ from HD)
          rw [List.length_drop] at this
          rw [bs_size] at hfit
          omega
        go_wp2
        go_round
        case rel =>
          refine ⟨j + 1, by omega, by go_num, fun t ht => ?_⟩
          rcases Nat.lt_or_ge t j with h | h
          · exact (show ∀ t, t < j → _ from hall) t h
          · have e : t = j := by omega
            rw [e, ← show x = _ from HX]
            exact hnf
        case measure => simp [intOf]; omega
    · have hje : j = 14 := by omega
      subst hje
      go_wp2_with (refine wpList_store4 rfl (.tmp 4) (.tmp 34) rfl w.heap.size _ _ _ _ rfl rfl s1 ⟨rfl, rfl, rfl, rfl⟩ ?_; intro w2 s7 oth2; obtain ⟨q0, q1, q2, q3⟩ := s7.cells)
      refine bodyPost_ret (v := .tuple #[mk0, .bool false]) (by simp [results, Tryz.results25, go_sem, q0, q1, q2, q3, mk0]) rfl ⟨?_, ?_⟩
      · rw [show signM (l.drop k) k = _ from HM, sign_no (show ∀ t, t < 14 → _ from hall)]
        rfl
      · exact hb1.trans (oth2.below (Nat.le_refl _))
end Go.Proofs.YtkonkplalgoekaaGreatDoor
