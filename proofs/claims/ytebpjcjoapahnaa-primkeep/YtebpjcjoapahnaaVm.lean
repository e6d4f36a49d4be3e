/-
  The walk of a law's value: V.
-/
import Derived.Test.YtebpjcjoapahnaaPa
import Derived.Deep.RegionHeld3
import Derived.Deep.DeepCutAuto
namespace Go.Proofs.Ytebpjcjoapahnaa
open Go.RowKit
set_option maxRecDepth 100000

/-- A number of a law: two parts, and whether they are words. -/
structure Nq where
  x : Int
  y : Int
  r : Bool
def Nq.w (q : Nq) : Wz := (zb q.r q.x, zb q.r q.y)
/-- A value of a law. -/
structure Qv where
  t : Int
  z : Nq
  b : Bool
  l : List Nq
def Qv.rv (q : Qv) : Rv := ⟨q.t, q.z.w, q.b, q.l.map Nq.w⟩
def qn : Nq := ⟨0, 0, false⟩
def qV (ao : Option Addr) (cap : Nat) (q : Qv) : Value := .agg #[.int .i64 q.t, .int .i64 q.z.x, .int .i64 q.z.y, .bool q.z.r, .bool q.b, .slice ao q.l.length cap]

theorem Nq.lt (q : Nq) : ltZ q.w := ⟨zb_lt _ _, zb_lt _ _⟩

/-- Three cells that are a number. -/
def N3 (w : World) (b o : Nat) (q : Nq) : Prop := w.cell? ⟨b, o, none⟩ = some (.int .i64 q.x) ∧ w.cell? ⟨b, o + 1, none⟩ = some (.int .i64 q.y) ∧ w.cell? ⟨b, o + 2, none⟩ = some (.bool q.r)
theorem N3.to {w w' : World} {b o B : Nat} {q : Nq} (h : N3 w b o q) (hl : b < B) (hb : Below B w w') : N3 w' b o q := ⟨(hb.cell hl).trans h.1, (hb.cell hl).trans h.2.1, (hb.cell hl).trans h.2.2⟩
theorem N3.lt {w : World} {b o : Nat} {q : Nq} (h : N3 w b o q) : b < w.heap.size := cell_lt h.1

/-- What a slice of numbers reads. -/
structure Nr (w : World) (ao : Option Addr) (qs : List Nq) : Prop where
  pl : qs ≠ [] → ∃ b off, ao = some ⟨b, off, none⟩ ∧ ∀ t, t < qs.length → N3 w b (off + t * 3) (qs.getD t qn)
theorem Nr.up {w w' : World} {ao : Option Addr} {qs : List Nq} (h : Nr w ao qs) (hb : Below w.heap.size w w') : Nr w' ao qs := by
  refine ⟨fun hn => ?_⟩
  obtain ⟨b, off, e, hc⟩ := h.pl hn
  exact ⟨b, off, e, fun t ht => (hc t ht).to (hc t ht).lt hb⟩

theorem zb_any (q : Nq) (W : World) : Calls Try.prog 15 #[.agg #[.int .i64 q.x, .int .i64 q.y, .bool q.r]] W fun e w' => e = .returned (.complex .f64 q.w.1 q.w.2) ∧ Below W.heap.size W w' := by
  refine (z_any q.x q.y q.r W).mono ?_
  rintro e w' ⟨rfl, n, rfl⟩
  exact ⟨rfl, below_drewN (below_alloc _ _) _⟩

theorem OwZ.zr {w : World} {B : Nat} {v : Value} {zs : List Wz} (h : OwZ w B v zs) (hl : ∀ z ∈ zs, ltZ z) : ∃ ao cap, v = .slice ao zs.length cap ∧ zs.length ≤ cap ∧ Zr w ao zs := by
  rcases h.2 with ⟨rfl, h0⟩ | ⟨g, cap, cur, rfl, _, _, h4, _⟩
  · have e := List.length_eq_zero_iff.1 h0
    subst e
    exact ⟨none, 0, rfl, Nat.le_refl _, Zr.nil _ _⟩
  · refine ⟨some ⟨g, 0, none⟩, cap, rfl, h4, hl, fun _ => ⟨g, 0, rfl, fun t ht => ?_⟩⟩
    have := h.cells (g := g) rfl t (cx (zs.getD t (0, 0))) (by rw [List.getElem?_map, List.getElem?_eq_getElem ht, List.getD_eq_getElem?_getD, List.getElem?_eq_getElem ht]; rfl)
    rw [Addr.add_mid] at this
    exact this

theorem Try.infoV : (Try.prog.info? 32).map (·.size) = some 4 := by kernel_rfl

/-- A cell of another kind of block written: a row stays. -/
theorem owns_set {w : World} {B : Nat} {e T : TypeId} {k n : Nat} {v : Value} {xs : List Value} {b : Nat} {vs : List Value} (h : w.ownsRow B e k v n xs) (hb : Bk w b T vs) (hT : T ≠ e) (j : Nat) (u : Value) : (w.setCell ⟨b, j, none⟩ u).ownsRow B e k v n xs := by
  refine ⟨h.1, ?_⟩
  rcases h.2 with h' | ⟨g, cap, cur, h1, h2, h3, h4⟩
  · exact .inl h'
  · refine .inr ⟨g, cap, cur, h1, h2, ?_, h4⟩
    rw [Below.heap_setCell w ⟨b, j, none⟩ u g ?_]
    · exact h3
    · intro e2
      simp only at e2
      subst e2
      unfold Bk at hb
      rw [h3] at hb
      simp only [Option.some.injEq, Obj.cells.injEq] at hb
      exact hT hb.2.1.symm

set_option maxHeartbeats 2000000 in
theorem valV_any (q : Qv) (ao : Option Addr) (cap : Nat) (w : World) (h : Nr w ao q.l) (hn : q.l.length ≤ 5864062014806) :
    Calls Try.prog 11 #[qV ao cap q] w fun e w' => ∃ ao' cap', e = .returned (vV ao' cap' q.rv) ∧ Vr w' ao' q.rv ∧ Below w.heap.size w w' := by
  obtain ⟨n, hnn⟩ : ∃ n, Hid (n = q.l.length) := ⟨_, rfl⟩
  rw [← hnn.out] at hn
  have hB := Bk.new w 37 #[.int .i64 q.t, .int .i64 q.z.x, .int .i64 q.z.y, .bool q.z.r, .bool q.b, .slice ao n cap]
  have b0 := below_alloc w (.cells #[.int .i64 q.t, .int .i64 q.z.x, .int .i64 q.z.y, .bool q.z.r, .bool q.b, .slice ao n cap] 37)
  have hzc := fun W => zb_any q.z W
  have HH : Hid (Nr w ao q.l) := h
  unfold qV
  rw [← hnn.out]
  clear h
  go_enter Try.func11, Try.ntmps11
  go_upto_region 1 with fail
  have hB0 := hB.alloc (.cells #[.int .i64 0, .complex .f64 0 0, .bool false, .slice none 0 0] 32)
  have b1 := Below.thn b0 (below_alloc _ (.cells #[.int .i64 0, .complex .f64 0 0, .bool false, .slice none 0 0] 32))
  have hR := Bk.new (w.alloc (.cells #[.int .i64 q.t, .int .i64 q.z.x, .int .i64 q.z.y, .bool q.z.r, .bool q.b, .slice ao n cap] 37)) 32 #[.int .i64 0, .complex .f64 0 0, .bool false, .slice none 0 0]
  rw [show (w.alloc (.cells #[.int .i64 q.t, .int .i64 q.z.x, .int .i64 q.z.y, .bool q.z.r, .bool q.b, .slice ao n cap] 37)).heap.size = w.heap.size + 1 by simp] at hR
  generalize ((w.alloc (.cells #[.int .i64 q.t, .int .i64 q.z.x, .int .i64 q.z.y, .bool q.z.r, .bool q.b, .slice ao n cap] 37)).alloc (.cells #[.int .i64 0, .complex .f64 0 0, .bool false, .slice none 0 0] 32)) = W at *
  clear hB b0
  go_cut [3] (fun v3 wx => ∃ g, v3 = .pointer (some ⟨g, 0, none⟩) ∧ W.heap.size ≤ g ∧ Bk wx g 32 [.int .i64 q.t, .complex .f64 q.z.w.1 q.z.w.2, .bool q.b, .slice none 0 0] ∧ Below W.heap.size W wx)
  case first =>
    have hlt := hB0.lt
    have hS : ∀ X, Below W.heap.size W X → X.cell? ⟨w.heap.size, 0, none⟩ = some (.int .i64 q.t) ∧ X.cell? ⟨w.heap.size, 1, none⟩ = some (.int .i64 q.z.x) ∧ X.cell? ⟨w.heap.size, 2, none⟩ = some (.int .i64 q.z.y) ∧ X.cell? ⟨w.heap.size, 3, none⟩ = some (.bool q.z.r) ∧ X.cell? ⟨w.heap.size, 4, none⟩ = some (.bool q.b) :=
      fun X hX => ⟨(hX.cell hlt).trans (hB0.cell 0), (hX.cell hlt).trans (hB0.cell 1), (hX.cell hlt).trans (hB0.cell 2), (hX.cell hlt).trans (hB0.cell 3), (hX.cell hlt).trans (hB0.cell 4)⟩
    have HS : Hid (∀ X, Below W.heap.size W X → X.cell? ⟨w.heap.size, 0, none⟩ = some (.int .i64 q.t) ∧ X.cell? ⟨w.heap.size, 1, none⟩ = some (.int .i64 q.z.x) ∧ X.cell? ⟨w.heap.size, 2, none⟩ = some (.int .i64 q.z.y) ∧ X.cell? ⟨w.heap.size, 3, none⟩ = some (.bool q.z.r) ∧ X.cell? ⟨w.heap.size, 4, none⟩ = some (.bool q.b)) := hS
    have s1 := hS W (Below.refl _ _)
    have hcx := store_cx
    clear hS
    go_region_held3 (fun X => X.cell? ⟨w.heap.size, 0, none⟩ = some (.int .i64 q.t) ∧ X.cell? ⟨w.heap.size, 1, none⟩ = some (.int .i64 q.z.x) ∧ X.cell? ⟨w.heap.size, 2, none⟩ = some (.int .i64 q.z.y) ∧ X.cell? ⟨w.heap.size, 3, none⟩ = some (.bool q.z.r) ∧ X.cell? ⟨w.heap.size, 4, none⟩ = some (.bool q.b))
      ((refine HS.out _ ?_; repeat (first | exact Below.refl _ _ | refine Below.setCell ?_ (Nat.le_refl W.heap.size) _ | refine Below.setCell ?_ (show W.heap.size ≤ _ from hbz.size) _ | refine Below.thn ?_ (below_alloc _ _) | refine Below.thn ?_ hbz | refine Below.drew ?_))) (first
      | (go_at_call 15; (with_reducible refine Calls.mono (hzc _) ?_); rintro e wz ⟨rfl, hbz⟩; first
        | (have hg := (show Bk (World.drew (W.alloc (.cells #[.int .i64 0, .complex .f64 0 0, .bool false, .slice none 0 0] 32))) W.heap.size 32 [.int .i64 0, .complex .f64 0 0, .bool false, .slice none 0 0] from Bk.new W 32 #[.int .i64 0, .complex .f64 0 0, .bool false, .slice none 0 0]).up hbz
           have g0 : wz.cell? ⟨W.heap.size, 0, none⟩ = some (.int .i64 0) := hg.cell 0
           have g1 : wz.cell? ⟨W.heap.size, 1, none⟩ = some (.complex .f64 0 0) := hg.cell 1
           have g2 : wz.cell? ⟨W.heap.size, 2, none⟩ = some (.bool false) := hg.cell 2
           have g3 : wz.cell? ⟨W.heap.size, 3, none⟩ = some (.slice none 0 0) := hg.cell 3
           have f0 := hg.frz 0
           have f1 := hg.frz 1
           have f2 := hg.frz 2
           have f3 := hg.frz 3)
        | skip)
      | fail)
    all_goals
      go_wp2_with fail
      go_meet
      case rel =>
        first
          | exact ⟨wz.heap.size, rfl, hbz.size, Bk.new wz 32 #[.int .i64 q.t, .complex .f64 q.z.w.1 q.z.w.2, .bool q.b, .slice none 0 0], Below.thn (Below.thn (Below.refl W.heap.size W).drew hbz) (below_alloc _ _)⟩
          | exact ⟨W.heap.size, rfl, Nat.le_refl _, (((hg.set 0 _).set 1 _).set 2 _).set 3 _, Below.setCell (Below.setCell (Below.setCell (Below.setCell (Below.thn (below_alloc W (.cells #[.int .i64 0, .complex .f64 0 0, .bool false, .slice none 0 0] 32)).drew hbz) (Nat.le_refl W.heap.size) _) (Nat.le_refl W.heap.size) _) (Nat.le_refl W.heap.size) _) (Nat.le_refl W.heap.size) _⟩
  case rest =>
    obtain ⟨g, rfl, hgW, hG, hBc⟩ := hcut
    generalize wc = W1 at *
    clear hzc
    have HL : Hid (Nr W ao q.l) := HH.out.up b1
    have HQ : Hid (Bk W w.heap.size 37 [.int .i64 q.t, .int .i64 q.z.x, .int .i64 q.z.y, .bool q.z.r, .bool q.b, .slice ao n cap]) := hB0
    have HR : Hid (Bk W (w.heap.size + 1) 32 [.int .i64 0, .complex .f64 0 0, .bool false, .slice none 0 0]) := hR
    have hgl := hG.lt
    have hc5 : W1.cell? ⟨w.heap.size, 5, none⟩ = some (.slice ao n cap) := (hBc.cell hB0.lt).trans (hB0.cell 5)
    have HG : Hid (Bk W1 g 32 [.int .i64 q.t, .complex .f64 q.z.w.1 q.z.w.2, .bool q.b, .slice none 0 0]) := hG
    clear hB0 hR hG HH
    go_wp2_with fail
    go_loopw [4] (fun i wr => ∃ (k : Nat) (ao' : Option Addr) (c' : Nat), k ≤ n ∧ i = .int .i64 k ∧ Below W.heap.size W wr ∧ W1.heap.size ≤ wr.heap.size ∧ Hid (Bk wr g 32 [.int .i64 q.t, .complex .f64 q.z.w.1 q.z.w.2, .bool q.b, .slice ao' k c']) ∧ Hid (OwZ wr W1.heap.size (.slice ao' k c') ((q.l.take k).map Nq.w))) (fun i _ => n - (RowKit.intOf i).toNat)
    case atStart => exact ⟨0, none, 0, Nat.zero_le _, rfl, hBc, Nat.le_refl _, HG, ⟨rfl, .inl ⟨rfl, rfl⟩⟩⟩
    case round =>
      obtain ⟨k, ao', c', hkn, rfl, hB, hsz, hG, hO⟩ := hrel
      clear hc5
      have hc5 : wr.cell? ⟨w.heap.size, 5, none⟩ = some (.slice ao n cap) := (hB.cell HQ.out.lt).trans (HQ.out.cell 5)
      by_cases hlt : k < n
      · have hk : k < q.l.length := by rw [← hnn.out]; exact hlt
        obtain ⟨b, off, rfl, hcl⟩ := HL.out.pl (by intro e; rw [e] at hk; simp at hk)
        have h3 := (hcl k hk).to (hcl k hk).lt hB
        have hbl := (hcl k hk).lt
        have hTk : (q.l.take (k + 1)).map Nq.w = (q.l.take k).map Nq.w ++ [(q.l.getD k qn).w] := by
          rw [List.take_succ_eq_append_getElem hk, List.map_append, List.getD_eq_getElem?_getD, List.getElem?_eq_getElem hk]; rfl
        obtain ⟨x, hx⟩ : ∃ x, x = q.l.getD k qn := ⟨_, rfl⟩
        rw [← hx] at h3 hTk
        have HT : Hid ((q.l.take (k + 1)).map Nq.w = (q.l.take k).map Nq.w ++ [x.w]) := hTk
        have hzc := fun X => zb_any x X
        have hln : ((q.l.take k).map Nq.w).length = k := by rw [List.length_map, List.length_take]; omega
        have HLN : Hid (((q.l.take k).map Nq.w).length = k) := hln
        clear hx hTk hcl hk HL HR hln
        obtain ⟨n1, n2, n3⟩ := h3
        have g3 : wr.cell? ⟨g, 3, none⟩ = some (.slice ao' k c') := hG.out.cell 3
        go_upto_region 5 with fail
        have hWW : W.heap.size ≤ W1.heap.size := hBc.size
        have hWr : W.heap.size ≤ wr.heap.size := hB.size
        clear HQ
        go_region_law (first
          | (refine step_append_runU (by rfl) (.tmp 21) (.tmp 28) 30 30 (by rfl) (by rfl) (.slice ao' k c') (.slice (some ⟨wz.heap.size, 0, none⟩) 1 1) (by rfl) (by rfl) (.slice ao9 _ c9) w9 (show _ = _ from R9) ?_)
          | (go_simp; go_at_call 15; (with_reducible refine Calls.mono (hzc _) ?_); rintro e wz ⟨rfl, hbz⟩; have hbw : Below wr.heap.size wr wz := ((Below.refl wr.heap.size wr).drew).trans hbz; have g3z : wz.cell? ⟨g, 3, none⟩ = some (.slice ao' k c') := (hbw.cell (cell_lt g3)).trans g3; have g3a : (wz.alloc (.cells #[.complex .f64 x.w.1 x.w.2] 29)).cell? ⟨g, 3, none⟩ = some (.slice ao' k c') := ((below_alloc wz _).cell (cell_lt g3z)).trans g3z; obtain ⟨v9, w9, r9, o9, k9⟩ := own_cx wz W1.heap.size (.slice ao' k c') ((q.l.take k).map Nq.w) x.w (owns_up hO.out hbw) (Nat.le_trans hsz hbw.size) (by rw [HLN.out]; omega); have R9 : Hid (_ = _) := r9; have b9 : Below W.heap.size W w9 := (hB.trans (hbw.mono hWr)).trans (k9.low.mono hWW); have hG9 : Hid (Bk w9 g 32 [.int .i64 q.t, .complex .f64 q.z.w.1 q.z.w.2, .bool q.b, .slice ao' k c']) := (show Bk _ _ _ _ from (k9.own g _ _ _ (show Bk _ _ _ _ from hG.out.up hbw) (by decide)).trans (show Bk _ _ _ _ from hG.out.up hbw)); have g39 : w9.cell? ⟨g, 3, none⟩ = some (.slice ao' k c') := hG9.out.cell 3; have f39 : w9.frozen? ⟨g, 3, none⟩ = false := hG9.out.frz 3; have O9 : Hid (OwZ w9 W1.heap.size v9 ((q.l.take (k + 1)).map Nq.w)) := (show OwZ _ _ _ _ by rw [HT.out]; exact o9); obtain ⟨ao9, c9, e9, _, _⟩ := owns_slice o9; rw [List.length_append, HLN.out] at e9; subst e9; clear r9 o9)
          | fail)
        all_goals
          go_wp2_with fail
          go_roundw
          case rel => exact ⟨k + 1, ao9, c9, by omega, by go_num, Below.setCell b9 hgW _, by simpa [World.setCell] using Nat.le_trans hsz (Nat.le_trans hbw.size k9.size), hG9.out.set 3 _, owns_set O9.out hG9.out (by decide) 3 _⟩
          case measure => simp [RowKit.intOf]; omega
      · have hke : k = n := by omega
        have htk : q.l.take k = q.l := List.take_of_length_le (by rw [← hnn.out]; omega)
        have hO' := hO.out
        rw [htk] at hO'
        have hlt0 : g < wr.heap.size := hG.out.lt
        have hR2 := (show Bk W (w.heap.size + 1) 32 _ from HR.out)
        have hR3 : Bk wr (w.heap.size + 1) 32 [.int .i64 0, .complex .f64 0 0, .bool false, .slice none 0 0] := by
          unfold Bk
          rw [hB.block _ hR2.lt]
          exact hR2
        have hne : g ≠ w.heap.size + 1 := by have := hR2.lt; omega
        have hltz : ∀ z ∈ q.l.map Nq.w, ltZ z := by
          intro z hz
          obtain ⟨y, _, rfl⟩ := List.mem_map.1 hz
          exact y.lt
        have hbR : Below w.heap.size w wr := b1.trans (hB.mono b1.size)
        have g0 : wr.cell? ⟨g, 0, none⟩ = some (.int .i64 q.t) := hG.out.cell 0
        have g1 : wr.cell? ⟨g, 1, none⟩ = some (.complex .f64 q.z.w.1 q.z.w.2) := hG.out.cell 1
        have g2 : wr.cell? ⟨g, 2, none⟩ = some (.bool q.b) := hG.out.cell 2
        have g3 : wr.cell? ⟨g, 3, none⟩ = some (.slice ao' k c') := hG.out.cell 3
        have HO : Hid (OwZ wr W1.heap.size (.slice ao' k c') (q.l.map Nq.w)) := hO'
        have HRR : Hid (Bk wr (w.heap.size + 1) 32 [.int .i64 0, .complex .f64 0 0, .bool false, .slice none 0 0]) := hR3
        clear hO' hR3 hR2 hO hG htk HL HR
        subst hke
        go_wp2_with (refine wpList_storeN rfl 32 (.tmp 2) (.tmp 31) rfl (w.heap.size + 1) 0 [.int .i64 q.t, .complex .f64 q.z.w.1 q.z.w.2, .bool q.b, .slice ao' k c'] rfl rfl HRR.out (Nat.le_refl 4) Try.infoV (by intro v hv; simp only [List.mem_cons, List.not_mem_nil, or_false] at hv; rcases hv with rfl | rfl | rfl | rfl <;> rfl) ?_; intro w9 hB9 hO9)
        have z0 : w9.cell? ⟨w.heap.size + 1, 0, none⟩ = some (.int .i64 q.t) := hB9.cell 0
        have z1 : w9.cell? ⟨w.heap.size + 1, 1, none⟩ = some (.complex .f64 q.z.w.1 q.z.w.2) := hB9.cell 1
        have z2 : w9.cell? ⟨w.heap.size + 1, 2, none⟩ = some (.bool q.b) := hB9.cell 2
        have z3 : w9.cell? ⟨w.heap.size + 1, 3, none⟩ = some (.slice ao' k c') := hB9.cell 3
        go_wp2
        have hkl : k = q.rv.zs.length := by rw [hnn.out]; simp [Qv.rv]
        have hO2 : OwZ w9 W1.heap.size (.slice ao' k c') (q.l.map Nq.w) := by
          refine ⟨HO.out.1, ?_⟩
          rcases HO.out.2 with h' | ⟨g', cap', cur, h1, h2, h3, h4⟩
          · exact .inl h'
          · refine .inr ⟨g', cap', cur, h1, h2, ?_, h4⟩
            rw [hO9.block g' ?_]
            · exact h3
            · intro e2
              subst e2
              have := HRR.out
              unfold Bk at this
              rw [h3] at this
              simp at this
        obtain ⟨ao2, c2, e2, _, hzr⟩ := hO2.zr hltz
        have hao : ao' = ao2 := by simp only [Value.slice.injEq] at e2; exact e2.1
        subst hao
        refine bodyPost_ret (v := vV ao' c' q.rv) (by simp [results, Try.results11, go_sem, z0, z1, z2, z3, Act.put, vV, Qv.rv, hkl]) rfl ⟨ao', c', rfl, ⟨q.z.lt, hzr, by rw [← hkl]; exact hn⟩, hbR.trans (hO9.below (Nat.le_succ _))⟩
end Go.Proofs.Ytebpjcjoapahnaa
