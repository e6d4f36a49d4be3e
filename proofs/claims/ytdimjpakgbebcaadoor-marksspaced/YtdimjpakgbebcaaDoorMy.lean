/-
  The walk of MarksSpaced.
-/
import Derived.Test.YtdimjpakgbebcaaDoorBp
import Derived.Lib.AppendStr
import Derived.Deep.RegionHeld3
namespace Go.Proofs.YtdimjpakgbebcaaDoor
open Go.RowKit
set_option maxRecDepth 100000

theorem Tryd.underStr : Tryd.prog.underlying 9 = some .string := by kernel_rfl

theorem strCells_bs (s : List UInt8) : Lib.strCells (bs s) = s.map byteV := by
  unfold Lib.strCells byteV
  rw [bs_list]

/-- A string appended to bytes of the call's own. -/
theorem own_str (w : World) (B : Nat) (v : Value) (xs : List UInt8) (s : List UInt8) (h : Own w B v xs) (hB : B ≤ w.heap.size) (hx : xs.length ≤ 100000000) (hs : s.length ≤ 100000000) :
    ∃ v' w', (Builtin.append_ #[22, 9] 22 #[v, .string (bs s)]).run Tryd.prog w = .ok v' w' ∧ Own w' B v' (xs ++ s) ∧ Below B w w' := by
  obtain ⟨i0, hi, hz0, hz1, hz2⟩ := info_parts Tryd.infoB
  have hl : (bs s).size = s.length := bs_size s
  obtain ⟨v', w', hr, ho, hgr, _⟩ := Lib.run_append_own_string (P := Tryd.prog) w B 22 9 22 5 i0 Tryd.underBs Tryd.underStr hi hz0 hz1 hz2 v xs.length _ h (bs s) (by rw [hl]; unfold maxLen; omega) (by rw [hl]; omega) hB
  refine ⟨v', w', hr, ?_, (Below.refl B w).grown hgr hB h.low⟩
  unfold Own
  rw [List.length_append, List.map_append, ← strCells_bs, ← hl]
  exact ho

theorem Own.nil (w : World) (B : Nat) : Own w B (.slice none 0 0) [] := ⟨rfl, .inl ⟨rfl, rfl⟩⟩

/-- An append whose run is known, as a step of a region that draws its order. -/
theorem step_append_run {P : Program} {ops : Array Oper} {o : Oper} {a : Act} {w : World} {K : Act → World → Prop} {Q : Exit → Act → World → Prop} {E : Prop}
    (hg : o.guard = none) (s x : Operand) (t u : TypeId) (hop : o.op = Op.call { callee := Callee.builtin Builtin.append, args := #[s, x], argTypes := #[t, u] }) (hty : o.type = t)
    (v y : Value) (hs : a.eval s = v) (hx : a.eval x = y) (v' : Value) (w' : World) (hrun : (Builtin.append_ #[t, u] t #[v, y]).run P w = .ok v' w') (hK : K (a.put o.dst v') w') :
    if Region.wanted o (yielded ops a.tmps) = true then Oper.wp P o a w K Q else E := by
  have hw : Region.wanted o (yielded ops a.tmps) = true := by simp [Region.wanted, hg]
  rw [if_pos hw]
  unfold Oper.wp
  rw [← hty] at hrun
  simp only [execOp, hop, resolve, invoke, builtin, Sem.run_bind, Sem.run_pure, Result.andThen_ok, List.map_toArray, List.map_cons, List.map_nil, hs, hx]
  rw [hty] at hrun ⊢
  rw [hrun]
  exact hK

/-- The gap ahead of the mark of number i. -/
def gapF (l2 : List UInt8) (i : Nat) : List UInt8 := if i < l2.length then gapL.getD ((l2.getD i 0).toNat % 7) [32] else [32]

theorem gapF_gap (l2 : List UInt8) (i : Nat) : isGap rdN (gapF l2 i) := by
  unfold gapF
  split
  · refine gap_all rdN _ ?_
    have : (l2.getD i 0).toNat % 7 < gapL.length := Nat.mod_lt _ (by decide)
    rw [List.getD_eq_getElem?_getD, List.getElem?_eq_getElem this]
    exact List.getElem_mem this
  · exact gap_all rdN _ (by decide)
theorem gapF_len (l2 : List UInt8) (i : Nat) : (gapF l2 i).length ≤ 11 := by
  have h : ∀ t, t < 7 → (gapL.getD t [32]).length ≤ 11 := by decide
  unfold gapF
  split
  · exact h _ (Nat.mod_lt _ (by decide))
  · decide

def txs : List Mk → Nat
  | [] => 0
  | m :: ms => m.text.length + txs ms

theorem spaced_len (g : Nat → List UInt8) (hg : ∀ i, (g i).length ≤ 11) : ∀ ms i, (spaced g i ms).length ≤ 11 * ms.length + txs ms
  | [], _ => by simp [spaced]
  | m :: ms, i => by
    have h1 := hg i
    have h2 := spaced_len g hg ms (i + 1)
    simp only [spaced, List.length_append, List.length_cons, txs]
    omega

theorem cut_txs : ∀ l k ms, cut rdN l k = .ok ms → txs ms ≤ l.length := by
  refine cut_ind rdN ?_ ?_ ?_ ?_
  · intro k ms h; cases h; simp [txs, endM]
  · intro l k h ms e; rw [cut_bad rdN h] at e; cases e
  · intro l k n h ih ms e
    rw [cut_skip rdN h] at e
    have := ih ms e
    rw [List.length_drop] at this
    omega
  · intro l k m h ih ms e
    obtain ⟨h1, h2, _, h4, _⟩ := stp_mark rdN h
    rw [cut_mark rdN h] at e
    cases hc' : cut rdN (l.drop m.text.length) (k + m.text.length) with
    | bad j => rw [hc'] at e; cases e
    | ok ms' =>
      rw [hc'] at e
      cases e
      have := ih ms' hc'
      rw [List.length_drop] at this
      show m.text.length + txs ms' ≤ _
      omega

theorem spaced_at (g : Nat → List UInt8) {ms : List Mk} {k : Nat} (h : k < ms.length) : spaced g k (ms.drop k) = g k ++ ((ms.getD k md).text ++ spaced g (k + 1) (ms.drop (k + 1))) := by
  rw [List.drop_eq_getElem_cons h, spaced, List.getD_eq_getElem?_getD, List.getElem?_eq_getElem h]
  rfl

theorem text_le : ∀ (ms : List Mk) (k : Nat), (ms.getD k md).text.length ≤ txs ms
  | [], _ => by simp [md, txs]
  | m :: ms, 0 => by simp [txs]
  | m :: ms, k + 1 => by
    have := text_le ms k
    simp only [List.getD_cons_succ, txs]
    omega

theorem tmod7 (c : UInt8) : Int.tmod ((c.toNat : Nat) : Int) 7 = ((c.toNat % 7 : Nat) : Int) := by
  rw [Int.tmod_eq_emod_of_nonneg (by omega)]
  omega

abbrev kindsO : Obj := .cells #[.string ⟨#[32]⟩, .string ⟨#[10]⟩, .string ⟨#[9]⟩, .string ⟨#[13]⟩, .string ⟨#[32, 35, 32, 61, 61, 32, 51, 120, 32, 64, 10]⟩, .string ⟨#[35, 10]⟩, .string ⟨#[32, 32]⟩] 9

theorem kinds_cell (w : World) (t : Nat) (ht : t < 7) : (w.alloc kindsO).cell? ⟨w.heap.size, t, none⟩ = some (.string (bs (gapL.getD t [32]))) := by
  rw [cell_of_row _ _ t _ _ _ (heap_alloc_new w _)]
  have : ∀ t, t < 7 → (#[Value.string ⟨#[32]⟩, .string ⟨#[10]⟩, .string ⟨#[9]⟩, .string ⟨#[13]⟩, .string ⟨#[32, 35, 32, 61, 61, 32, 51, 120, 32, 64, 10]⟩, .string ⟨#[35, 10]⟩, .string ⟨#[32, 32]⟩] : Array Value)[t]? = some (.string (bs (gapL.getD t [32]))) := by
    intro t ht
    rcases t with _ | _ | _ | _ | _ | _ | _ | t
    all_goals first | rfl | omega
  exact this t ht

set_option maxHeartbeats 8000000 in
theorem spaced_any (a1 a2 : Option Addr) (c1 c2 : Nat) (l1 l2 : List UInt8) (hlen : l1.length + l2.length + 2 ≤ 1048576) (hc1 : l1.length ≤ c1) (_hc2 : l2.length ≤ c2) (w : World) (hG : Gl w) (hE : Env w) (h1 : Bd w a1 l1) (h2 : Bd w a2 l2) :
    Calls Tryd.prog 3 #[.slice a1 l1.length c1, .slice a2 l2.length c2] w fun e w' => e = .returned (.bool true) ∧ Below w.heap.size w w' := by
  go_enter Tryd.func3, Tryd.ntmps3
  go_wp2_with (go_at_call 5; refine (awake_any _ hG hE).mono ?_; rintro e w1 ⟨rfl, hB1⟩)
  refine (marks_val a1 c1 l1 (by omega) hc1 w1 (hG.up hB1) (env_keep hE hB1) (h1.up hB1)).mono ?_
  rintro e w2 ⟨gx, px, rfl, hox, hrx, hb2⟩
  have hB2 := Below.thn hB1 hb2
  clear hb2 hB1
  obtain ⟨cA, hcA⟩ : ∃ c, c = cut rdN l1 0 := ⟨_, rfl⟩
  rw [← hcA] at hox hrx ⊢
  have hf := S2.new w2 (.int .i64 (fwC cA)) (.int .i64 (faC cA))
  obtain ⟨f0, f1, _, _⟩ := hf.cells
  have hB3 := bal (o := .cells #[.int .i64 (fwC cA), .int .i64 (faC cA)] 27) hB2
  cases cA with
  | bad k =>
    simp only [msC, fwC, faC] at f0 f1 hB3 ⊢
    go_wp2
    go_ret
    exact ⟨rfl, hB3⟩
  | ok ms =>
    simp only [msC, fwC, faC] at f0 f1 hB3 hox hrx ⊢
    have hms := mks_of rdN _ _ _ hcA.symm
    have hmne := cut_ne rdN _ _ _ hcA.symm
    have hfew := cut_few _ _ _ hcA.symm
    have htx := cut_txs _ _ _ hcA.symm
    have hokm := cut_okN _ _ _ hcA.symm
    have HA : Hid (Cu.ok ms = cut rdN l1 0) := hcA
    clear hcA hox
    obtain ⟨bx, ox, rfl, _⟩ := hrx.pl hmne
    have hrx3 := hrx.up (below_two w2 (.cells #[.int .i64 0, .int .i64 0] 27) kindsO)
    have hkc : ∀ t, t < 7 → ((w2.alloc (.cells #[.int .i64 0, .int .i64 0] 27)).alloc kindsO).cell? ⟨w2.heap.size + 1, t, none⟩ = some (.string (bs (gapL.getD t [32]))) := by
      intro t ht
      have := kinds_cell (w2.alloc (.cells #[.int .i64 0, .int .i64 0] 27)) t ht
      rw [show (w2.alloc (.cells #[.int .i64 0, .int .i64 0] 27)).heap.size = w2.heap.size + 1 by simp] at this
      exact this
    have hB4 := bal (o := kindsO) hB3
    have hls := spaced_len (gapF l2) (gapF_len l2) ms 0
    obtain ⟨n, hn⟩ : ∃ n, n = ms.length := ⟨_, rfl⟩
    obtain ⟨W, hW⟩ : ∃ W, W = (w2.alloc (.cells #[.int .i64 0, .int .i64 0] 27)).alloc kindsO := ⟨_, rfl⟩
    have hkl : w2.heap.size + 1 < W.heap.size := by rw [hW]; simp
    rw [← hW] at hrx3 hkc hB4
    rw [← hn] at hfew hls ⊢
    have hh2 := h2.up hB4
    have hGW := hG.up hB4
    have hEW := env_keep hE hB4
    have hbx : bx < W.heap.size := (hrx3.at 0 (List.length_pos_iff.2 hmne)).lt
    clear hrx hf f1 hB3 hB2
    go_wp2
    rw [← hW]
    clear hW f0
    go_loopw [8, 9] (fun v i wr => ∃ (k : Nat) (out : List UInt8), k ≤ n ∧ i = .int .i64 k ∧ Hid (Own wr W.heap.size v out) ∧ Below W.heap.size W wr ∧ Hid (spaced (gapF l2) 0 ms = out ++ spaced (gapF l2) k (ms.drop k))) (fun _ i _ => n - (intOf i).toNat)
    case atStart => exact ⟨0, [], Nat.zero_le _, rfl, Own.nil _ _, Below.refl _ _, rfl⟩
    case round =>
      obtain ⟨k, out, hk, rfl, hO, hBr, hS⟩ := hrel
      by_cases hlt : k < n
      · have hsz := hBr.size
        have hol : out.length ≤ 16000000 := by
          have := congrArg List.length (show _ = _ from hS)
          rw [List.length_append] at this
          omega
        have htl := text_le ms k
        obtain ⟨m, hm⟩ : ∃ m, m = ms.getD k md := ⟨_, rfl⟩
        have hS2 := show _ = _ from hS
        rw [spaced_at (gapF l2) (by omega), ← List.append_assoc, ← List.append_assoc, ← hm] at hS2
        have HS2 : Hid (_ = _) := hS2
        rw [← hm] at htl
        obtain ⟨gp, hgp⟩ : ∃ gp, gp = gapF l2 k := ⟨_, rfl⟩
        have hgl := gapF_len l2 k
        rw [← hgp] at hgl HS2
        obtain ⟨v1, w5, r5, o5, b5⟩ := own_str wr.drew W.heap.size _ out gp (Own.up (show Own _ _ _ _ from hO) (Below.refl _ _).drew) hsz (by omega) (by omega)
        obtain ⟨v2, w6, r6, o6, b6⟩ := own_str w5 W.heap.size _ (out ++ gp) m.text o5 (Nat.le_trans hsz b5.size) (by rw [List.length_append]; omega) (by omega)
        have hB5 : Below W.heap.size W w5 := hBr.drew.trans b5
        have hB6 := hB5.trans b6
        have hM := hrx3.at k (by omega)
        rw [← hm] at hM
        have t1 := (hM.to hbx hBr).2.1
        have t5 := (hM.to hbx hB5).2.1
        have t6 := (hM.to hbx hB6).2.1
        have T1 : Hid (wr.drew.cell? ⟨bx, ox + k * 4 + 1, none⟩ = some (.string (bs m.text))) := t1
        have R5 : Hid (_ = _) := r5
        have R6 : Hid (_ = _) := r6
        have O6 : Hid (Own w6 _ v2 _) := o6
        clear r5 r6 o5 o6 b5 b6 hM hS hS2 hO hm
        by_cases hg : k < l2.length
        · obtain ⟨b2, o2, rfl, hc2⟩ := hh2.pl (by intro e; rw [e] at hg; simp at hg)
          obtain ⟨c, hc⟩ : ∃ c, c = l2.getD k 0 := ⟨_, rfl⟩
          obtain ⟨q, hq, hqc⟩ : ∃ q, q < 7 ∧ c.toNat % 7 = q := ⟨_, Nat.mod_lt _ (by decide), rfl⟩
          have d1 := hc2 k hg
          rw [← hc] at d1
          have d2 := (hBr.cell (cell_lt d1)).trans d1
          have d3 := (hBr.cell (p := ⟨w2.heap.size + 1, q, none⟩) hkl).trans (hkc _ hq)
          have egp : gapL.getD q [32] = gp := by rw [hgp, ← hqc]; unfold gapF; rw [if_pos hg, hc]
          rw [egp] at d3
          have hmd : Int.tmod (wrap64 (c.toNat : Int)) 7 = (q : Int) := by
            have hcl := c.toNat_lt
            rw [show wrap64 (c.toNat : Int) = (c.toNat : Int) by simp only [wrap64]; omega, tmod7, hqc]
          clear hc2 d1 hc egp hgp hqc
          obtain ⟨z, hz⟩ : ∃ z, wrap64 (c.toNat : Int) = z := ⟨_, rfl⟩
          rw [hz] at hmd
          go_wp2
          go_region_held3 (fun W => W.cell? ⟨bx, ox + k * 4 + 1, none⟩ = some (.string (bs m.text))) (first | exact t1 | exact t5 | exact t6 | exact (show _ = _ from T1)) (first
            | refine step_append_run (by rfl) (.tmp 48) (.tmp 49) 22 9 (by rfl) (by rfl) _ _ (by rfl) (by rfl) _ _ (show _ = _ from R5) ?_
            | refine step_append_run (by rfl) (.tmp 50) (.tmp 55) 22 9 (by rfl) (by rfl) _ _ (by rfl) (by rfl) _ _ (show _ = _ from R6) ?_)
          all_goals
            go_wp2
            go_roundw
            case rel => exact ⟨k + 1, _, by omega, by go_num, O6, hB6, HS2⟩
            case measure => simp [intOf]; omega
        · have egp : gp = [32] := by rw [hgp]; unfold gapF; rw [if_neg hg]
          subst egp
          have r5 := show _ = _ from R5
          rw [show bs [32] = ⟨#[32]⟩ from rfl] at r5
          have R5 : Hid (_ = _) := r5
          clear r5
          clear hgp
          go_wp2
          go_region_held3 (fun W => W.cell? ⟨bx, ox + k * 4 + 1, none⟩ = some (.string (bs m.text))) (first | exact t1 | exact t5 | exact t6 | exact (show _ = _ from T1)) (first
            | refine step_append_run (by rfl) (.tmp 48) (.tmp 49) 22 9 (by rfl) (by rfl) _ _ (by rfl) (by rfl) _ _ (show _ = _ from R5) ?_
            | refine step_append_run (by rfl) (.tmp 50) (.tmp 55) 22 9 (by rfl) (by rfl) _ _ (by rfl) (by rfl) _ _ (show _ = _ from R6) ?_)
          all_goals
            go_wp2
            go_roundw
            case rel => exact ⟨k + 1, _, by omega, by go_num, O6, hB6, HS2⟩
            case measure => simp [intOf]; omega
      · have hke : k = n := by omega
        subst hke
        have hS2 := show _ = _ from hS
        rw [hn, List.drop_length, spaced, List.append_nil] at hS2
        obtain ⟨ao, cp, rfl, hbd, hcp, _, _⟩ := Own.bd (show Own _ _ _ _ from hO)
        have hol : out.length ≤ 16000000 := by rw [← hS2]; omega
        obtain ⟨ms', hcut, hun⟩ := cut_spaced rdN (gapF l2) (gapF_gap l2) ms 0 0 hms
        rw [hS2] at hcut
        have hBw := Below.thn hB4 hBr
        have m5 := marks_val ao cp out (by omega) hcp wr (hG.up hBw) (env_keep hE hBw) hbd
        rw [hcut] at m5
        have hfew' := cut_few _ _ _ hcut
        have hokm' := okN_get (cut_okN _ _ _ hcut)
        have hml : ms.length = ms'.length := by have := congrArg List.length hun; simpa using this.symm
        have heq : ∀ t, t < ms.length → eqM false (ms.getD t md) (ms'.getD t md) := by
          intro t ht
          have := congrArg (fun l => l[t]?) hun
          simp only [List.getElem?_map, List.getElem?_eq_getElem ht, List.getElem?_eq_getElem (show t < ms'.length by omega), Option.map_some, Option.some.injEq] at this
          rw [List.getD_eq_getElem?_getD, List.getD_eq_getElem?_getD, List.getElem?_eq_getElem ht, List.getElem?_eq_getElem (show t < ms'.length by omega)]
          simp only [unp, Mk.mk.injEq] at this
          exact ⟨this.1.symm, this.2.1.symm, this.2.2.1.symm, this.2.2.2.1.symm, fun e => by cases e⟩
        simp only [msC, fwC, faC] at m5
        have hxr := hrx3.up hBr
        clear hO hS hS2 hun hcut
        go_wp2_with fail
        refine m5.mono ?_
        rintro e w6 ⟨gz, pz, rfl, _, hrz, hb6⟩
        have hB6 := bal (o := .cells #[.int .i64 0, .int .i64 0] 27) (Below.thn hBw hb6)
        have hz := S2.new w6 (.int .i64 0) (.int .i64 0)
        obtain ⟨z0, z1, _, _⟩ := hz.cells
        have hsm := same_any false (some ⟨bx, ox, none⟩) gz px pz ms ms' hml (by omega) (w6.alloc (.cells #[.int .i64 0, .int .i64 0] 27)) ((hxr.up hb6).up (below_alloc _ _)) (hrz.up (below_alloc _ _)) heq hokm'
        rw [hml] at hsm ⊢
        clear m5 hrz hxr hb6 heq hokm'
        go_wp2_with (go_at_call 7; refine hsm.mono ?_; rintro e w7 ⟨rfl, hb7⟩)
        go_ret
        exact ⟨rfl, Below.thn hB6 hb7⟩
end Go.Proofs.YtdimjpakgbebcaaDoor
