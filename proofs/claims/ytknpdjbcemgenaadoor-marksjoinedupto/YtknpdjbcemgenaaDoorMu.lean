/-
  The walk of MarksJoined.
-/
import Derived.Test.YtknpdjbcemgenaaDoorBp
import Derived.Deep.RegionHeld2
namespace Go.Proofs.YtknpdjbcemgenaaDoor
open Go.RowKit
set_option maxRecDepth 100000

abbrev flt (x y : Int) : Obj := .cells #[.int .i64 x, .int .i64 y] 27

theorem Mr.take {w : World} {ao : Option Addr} {ms : List Mk} (h : Mr w ao ms) (n : Nat) : Mr w ao (ms.take n) := by
  refine ⟨fun hn => ?_⟩
  have hne : ms ≠ [] := by intro e; subst e; simp at hn
  obtain ⟨b, off, e, hc⟩ := h.pl hne
  refine ⟨b, off, e, fun t ht => ?_⟩
  have ht2 : t < ms.length := by simp at ht; omega
  have ht3 : t < n := by simp at ht; omega
  have e2 : (ms.take n).getD t md = ms.getD t md := by simp [List.getD_eq_getElem?_getD, ht3]
  rw [e2]
  exact hc t ht2

theorem Mr.drop {w : World} {b off : Nat} {ms : List Mk} (h : Mr w (some ⟨b, off, none⟩) ms) (n : Nat) : Mr w (some ⟨b, off + n * 4, none⟩) (ms.drop n) := by
  refine ⟨fun _ => ⟨b, off + n * 4, rfl, fun t ht => ?_⟩⟩
  have ht2 : n + t < ms.length := by simp at ht; omega
  have e2 : (ms.drop n).getD t md = ms.getD (n + t) md := by simp [List.getD_eq_getElem?_getD]
  rw [e2, show off + n * 4 + t * 4 = off + (n + t) * 4 by omega]
  exact h.at (n + t) ht2

theorem Mr.drew {w : World} {ao : Option Addr} {ms : List Mk} (h : Mr w ao ms) : Mr w.drew ao ms := h.up (Below.refl _ w).drew
theorem S2.up2 {w w' : World} {b : Nat} {x y : Value} (h : S2 w b x y) (hb : Below w.heap.size w w') : S2 w' b x y := h.to h.lt hb

theorem own_cap {w : World} {B : Nat} {ao : Option Addr} {n c : Nat} {xs : List Value} (h : w.ownsRow B 40 4 (.slice ao n c) n xs) : n ≤ c := by
  rcases h.2 with ⟨h', _⟩ | ⟨g', cap', cur, h', _, _, h4, _⟩
  · simp only [Value.slice.injEq] at h'; omega
  · simp only [Value.slice.injEq] at h'; omega

theorem run_slice_hi (b o len cap n : Nat) (h : n ≤ cap) (w : World) : (Instr.slice 24 (.slice (some ⟨b, o, none⟩) len cap) none (some (.int .i64 (n : Int))) none).run Tryd.prog w = .ok (.slice (some ⟨b, o, none⟩) n cap) w := by
  simp [Instr.slice, Instr.sliceBounds, Instr.sliceBound, asIntOf, h, run_underlying Tryd.underMs, go_sem]

theorem run_slice_lo (b o len cap n : Nat) (h : n ≤ len) (_h2 : len ≤ cap) (h3 : n < cap) (w : World) : (Instr.slice 24 (.slice (some ⟨b, o, none⟩) len cap) (some (.int .i64 (n : Int))) none none).run Tryd.prog w = .ok (.slice (some ⟨b, o + n * 4, none⟩) (len - n) (cap - n)) w := by
  have hs : (sizeOf 40).run Tryd.prog w = .ok 4 w := by
    have := Tryd.infoM
    cases hq : Tryd.prog.info? 40 with
    | none => simp [hq] at this
    | some i => rw [hq] at this; simp at this; simp [sizeOf, typeInfo, hq, this]
  have h4 : ¬ cap = n := by omega
  have h5 : ¬ cap - n = 0 := by omega
  simp [Instr.slice, Instr.sliceBounds, Instr.sliceBound, asIntOf, h, hs, h4, run_underlying Tryd.underMs, go_sem, Addr.add_mid]

theorem set_out (w : World) (b o : Nat) (v : Value) (x : Nat) (h : x ≠ o) : (w.setCell ⟨b, o, none⟩ v).cell? ⟨b, x, none⟩ = w.cell? ⟨b, x, none⟩ := by
  have := World.cell?_setCells_out b [v] o w ⟨b, x, none⟩ (fun _ _ => by simp; omega)
  exact this

theorem M4_set {w : World} {b n : Nat} {f : Nat → Mk} (h : ∀ t, t < n → M4 w b (t * 4) (f t)) (k v : Nat) (hk : k < n) :
    ∀ t, t < n → M4 (w.setCell ⟨b, k * 4 + 3, none⟩ (.int .i64 v)) b (t * 4) (if t = k then { f t with at_ := v } else f t) := by
  intro t ht
  obtain ⟨m1, m2, m3, m4⟩ := h t ht
  by_cases e : t = k
  · subst e
    rw [if_pos rfl]
    refine ⟨?_, ?_, ?_, ?_⟩
    · rw [set_out _ _ _ _ _ (by omega)]; exact m1
    · rw [set_out _ _ _ _ _ (by omega)]; exact m2
    · rw [set_out _ _ _ _ _ (by omega)]; exact m3
    · exact World.cell?_setCell_same' _ _ _ (by rw [m4]; rfl)
  · rw [if_neg e]
    refine ⟨?_, ?_, ?_, ?_⟩
    · rw [set_out _ _ _ _ _ (by omega)]; exact m1
    · rw [set_out _ _ _ _ _ (by omega)]; exact m2
    · rw [set_out _ _ _ _ _ (by omega)]; exact m3
    · rw [set_out _ _ _ _ _ (by omega)]; exact m4

theorem w64_small (x : Int) (h0 : 0 ≤ x) (h1 : x ≤ 10000000) : wrap64 x = x := by simp only [wrap64]; omega
theorem w64_sum (n r : Nat) (hn : n ≤ 1048576) (hr : r ≤ 1048576) : wrap64 (wrap64 ((n : Int) + 1 + ((r : Int) + 1)) - 1) = (n : Int) + (r : Int) + 1 := by
  rw [w64_small ((n : Int) + 1 + ((r : Int) + 1)) (by omega) (by omega), w64_small _ (by omega) (by omega)]; omega
theorem i64_small (x : Int) (h0 : 0 ≤ x) (h1 : x ≤ 10000000) : IntKind.i64.wrap x = x := by rw [IntKind.wrap_i64]; omega

/-- A mark of y, moved on once the loop has passed it. -/
def mx (ys : List Mk) (N k t : Nat) : Mk := if t < k then (ys.getD t md).mv N else ys.getD t md

theorem Oth.mr {g : Nat} {w0 wr : World} (h : Oth g w0 wr) {b off : Nat} {ms : List Mk} (hm : Mr w0 (some ⟨b, off, none⟩) ms) (hb : b ≠ g) : Mr wr (some ⟨b, off, none⟩) ms := by
  refine ⟨fun _ => ⟨b, off, rfl, fun t ht => ?_⟩⟩
  obtain ⟨m1, m2, m3, m4⟩ := hm.at t ht
  exact ⟨(h.cell hb).trans m1, (h.cell hb).trans m2, (h.cell hb).trans m3, (h.cell hb).trans m4⟩

theorem cut_at : ∀ l k ms, cut rdN l k = .ok ms → ∀ m ∈ ms, m.at_ ≤ k + l.length := by
  refine cut_ind rdN ?_ ?_ ?_ ?_
  · intro k ms h m hm; cases h; simp at hm; subst hm; simp [endM]
  · intro l k h ms e; rw [cut_bad rdN h] at e; cases e
  · intro l k n h ih ms e m hm
    obtain ⟨h1, h2⟩ := stp_skip rdN h
    rw [cut_skip rdN h] at e
    have := ih ms e m hm
    rw [List.length_drop] at this
    omega
  · intro l k m h ih ms e
    obtain ⟨h1, h2, _, h4, _⟩ := stp_mark rdN h
    rw [cut_mark rdN h] at e
    cases hc' : cut rdN (l.drop m.text.length) (k + m.text.length) with
    | bad j => rw [hc'] at e; cases e
    | ok ms' =>
      rw [hc'] at e
      cases e
      intro x hx
      simp only [List.cons_append, List.nil_append, List.mem_cons] at hx
      rcases hx with rfl | hx
      · omega
      · have := ih ms' hc' x hx
        rw [List.length_drop] at this
        omega

set_option maxHeartbeats 8000000 in
theorem joined_any (a1 a2 : Option Addr) (c1 c2 : Nat) (l1 l2 : List UInt8) (hlen : l1.length + l2.length + 2 ≤ 1048576) (hc1 : l1.length ≤ c1) (hc2 : l2.length ≤ c2) (hn1 : a1 = none → c1 = 0) (hn2 : a2 = none → c2 = 0) (w : World) (hG : Gl w) (hE : Env w) (h1 : Bd w a1 l1) (h2 : Bd w a2 l2) :
    Calls Tryd.prog 6 #[.slice a1 l1.length c1, .slice a2 l2.length c2] w fun e w' => e = .returned (.bool true) ∧ Below w.heap.size w w' := by
  go_enter Tryd.func6, Tryd.ntmps6
  go_wp2_with (go_at_call 9; refine (awake_any _ hG hE).mono ?_; rintro e w1 ⟨rfl, hB1⟩)
  refine (marks_val a1 c1 l1 (by omega) hc1 w1 (hG.up hB1) (env_keep hE hB1) (h1.up hB1)).mono ?_
  rintro e w2 ⟨gx, px, rfl, hox, hrx, hb2⟩
  have hB2 := Below.thn hB1 hb2
  have hsw := hB2.size
  clear hb2 hB1
  obtain ⟨cA, hcA⟩ : ∃ c, c = cut rdN l1 0 := ⟨_, rfl⟩
  rw [← hcA] at hox hrx ⊢
  have HA : Hid (cA = cut rdN l1 0) := hcA
  clear hcA
  have hB3 := bal (o := flt (fwC cA) (faC cA)) hB2
  have hf3 := S2.new w2 (.int .i64 (fwC cA)) (.int .i64 (faC cA))
  have hrx3 := hrx.up (below_alloc w2 (flt (fwC cA) (faC cA)))
  have hpx := own_cap hox
  have hbx : ∀ b off, gx = some ⟨b, off, none⟩ → msC cA ≠ [] → b < w2.heap.size := fun b off e hne => by subst e; exact ((hrx.at 0 (List.length_pos_iff.2 hne))).lt
  have m3 := marks_val a2 c2 l2 (by omega) hc2 (w2.alloc (flt (fwC cA) (faC cA))) (hG.up hB3) (env_keep hE hB3) (h2.up hB3)
  obtain ⟨cB, hcB⟩ : ∃ c, c = cut rdN l2 0 := ⟨_, rfl⟩
  rw [← hcB] at m3
  have HB : Hid (cB = cut rdN l2 0) := hcB
  clear hcB
  clear hox hrx hB2
  go_wp2_with fail
  refine m3.mono ?_
  rintro e w4 ⟨gy, py, rfl, hoy, hry, hb4⟩
  have hB4 := bal (o := flt (fwC cB) (faC cB)) (Below.thn hB3 hb4)
  have q4 := Below.thn hb4 (below_alloc w4 (flt (fwC cB) (faC cB)))
  have hf4 := hf3.up2 q4
  have hg4 := S2.new w4 (.int .i64 (fwC cB)) (.int .i64 (faC cB))
  have hrx4 := hrx3.up q4
  have hry4 := hry.up (below_alloc w4 (flt (fwC cB) (faC cB)))
  have hoy4 := owns_up hoy (below_alloc w4 (flt (fwC cB) (faC cB)))
  have es : (w4.alloc (flt (fwC cB) (faC cB))).heap.size = w4.heap.size + 1 := by simp
  have hgyl : ∀ b off, gy = some ⟨b, off, none⟩ → msC cB ≠ [] → b < w4.heap.size := fun b off e hne => by subst e; exact ((hry.at 0 (List.length_pos_iff.2 hne))).lt
  clear m3 hb4 hB3 hf3 hrx3 hoy hry
  obtain ⟨v5, w5, r5, o5, b5⟩ := own_app _ _ _ _ (Own.new (w4.alloc (flt (fwC cB) (faC cB)))) (by simp) a1 c1 l1 ((h1.up hB4).up (below_alloc _ _)) hn1 (by simp) (by omega)
  rw [List.nil_append] at o5
  have q5 : Below (w4.alloc (flt (fwC cB) (faC cB))).heap.size (w4.alloc (flt (fwC cB) (faC cB))) w5 := (below_alloc _ _).trans b5
  obtain ⟨v6, w6, r6, o6, b6⟩ := own_one w5 _ v5 l1 10 o5 q5.size (by omega)
  have q6 := q5.trans b6
  have hB6 := Below.thn hB4 q6
  obtain ⟨v7, w7, r7, o7, b7⟩ := own_app w6 _ v6 (l1 ++ [10]) o6 q6.size a2 c2 l2 (h2.up hB6) hn2 (by simp; omega) (by omega)
  have q7 := q6.trans b7
  have hB7 := Below.thn hB4 q7
  obtain ⟨T7, hT7⟩ : ∃ T, T = l1 ++ [10] ++ l2 := ⟨_, rfl⟩
  have hl7 : T7.length ≤ 1048576 := by rw [hT7]; simp; omega
  have hcZ : cut rdN T7 0 = joinC cA (cB.mv (l1.length + 1)) := by
    rw [hT7, List.append_assoc]
    have := cut_join rdN l2 l1 0
    rw [Nat.zero_add, ← show cA = _ from HA] at this
    have e := cut_mv rdN (l1.length + 1) l2 0
    rw [Nat.zero_add, ← show cB = _ from HB] at e
    rw [e] at this
    exact this
  rw [← hT7] at o7
  obtain ⟨a7, p7, hv7, hd7, hp7, _, _⟩ := o7.bd
  subst hv7
  have m7 := marks_val a7 p7 T7 hl7 hp7 w7 (hG.up hB7) (env_keep hE hB7) hd7
  obtain ⟨cZ, hZ⟩ : ∃ c, c = cut rdN T7 0 := ⟨_, rfl⟩
  rw [← hZ] at m7 hcZ
  rw [es] at r5
  have R5 : Hid (_ = _) := r5
  have R6 : Hid (_ = _) := r6
  have R7 : Hid (_ = _) := r7
  have hf7 := hf4.up2 q7
  have hg7 := hg4.up2 q7
  have hrx7 := hrx4.up q7
  have hry7 := hry4.up q7
  have hoy7 := owns_up hoy4 q7
  have hs47 : w4.heap.size < w7.heap.size := by have := q7.size; rw [es] at this; omega
  have HZ : Hid (cZ = joinC cA (cB.mv (l1.length + 1))) := hcZ
  have HZ2 : Hid (cZ = cut rdN T7 0) := hZ
  clear r5 r6 r7 o5 o6 o7 b5 b6 b7 hd7 q5 q6 hcZ hT7 hZ hf4 hg4 hrx4 hry4 hoy4 hB6 h1 h2
  go_wp2_with (first
    | (at_builtin; refine wpList_append_run rfl (.tmp 29) (.tmp 30) 22 rfl rfl _ _ rfl rfl _ _ (show _ = _ from R5) ?_)
    | (at_builtin; refine wpList_append_run rfl (.tmp 31) (.tmp 32) 22 rfl rfl _ _ rfl rfl _ _ (show _ = _ from R6) ?_)
    | (at_builtin; refine wpList_append_run rfl (.tmp 35) (.tmp 36) 22 rfl rfl _ _ rfl rfl _ _ (show _ = _ from R7) ?_))
  refine m7.mono ?_
  rintro e w8 ⟨gz, pz, rfl, hoz, hrz, hb8⟩
  have hB8 := bal (o := flt (fwC cZ) (faC cZ)) (Below.thn hB7 hb8)
  have q8 := Below.thn hb8 (below_alloc w8 (flt (fwC cZ) (faC cZ)))
  have hf8 := hf7.up2 q8
  have hg8 := hg7.up2 q8
  have hh8 := S2.new w8 (.int .i64 (fwC cZ)) (.int .i64 (faC cZ))
  have hrx8 := hrx7.up q8
  have hry8 := hry7.up q8
  have hoy8 := owns_up hoy7 q8
  have hrz8 := hrz.up (below_alloc w8 (flt (fwC cZ) (faC cZ)))
  have hpz := own_cap hoz
  have hzg : ∀ b off, gz = some ⟨b, off, none⟩ → msC cZ ≠ [] → w7.heap.size ≤ b := by
    intro b off e hne
    subst e
    rcases hoz.2 with ⟨h', _⟩ | ⟨g', cap', cur, h', hb, _⟩
    · simp at h'
    · simp only [Value.slice.injEq, Option.some.injEq, Addr.mk.injEq, and_true, true_and] at h'
      omega
  clear m7 hb8 hB7 hf7 hg7 hrx7 hry7 hoy7 hrz hoz R5 R6 R7 q7 hG hE
  obtain ⟨x0, x1, _, _⟩ := hf8.cells
  obtain ⟨y0, y1, _, _⟩ := hg8.cells
  obtain ⟨z0, z1, _, _⟩ := hh8.cells
  cases cA with
  | bad k =>
    have e := show cZ = _ from HZ
    simp only [joinC] at e
    subst e
    obtain ⟨p1, hp1⟩ : ∃ p, p = fwC cB := ⟨_, rfl⟩
    obtain ⟨p2, hp2⟩ : ∃ p, p = faC cB := ⟨_, rfl⟩
    obtain ⟨p3, hp3⟩ : ∃ p, p = (msC cB).length := ⟨_, rfl⟩
    rw [← hp1] at y0 ⊢
    rw [← hp2] at y1 ⊢
    rw [← hp3]
    clear hp1 hp2 hp3 hry8 hoy8 hrz8 hrx8 hgyl hzg hg8 hf8 hh8
    simp only [msC, fwC, faC] at x0 x1 z0 z1 hB8 y0 y1 ⊢
    go_wp2
    go_ret
    exact ⟨rfl, hB8⟩
  | ok xs =>
    cases cB with
    | bad j =>
      have e := show cZ = _ from HZ
      simp only [joinC, Cu.mv, Cu.pre] at e
      obtain ⟨J, hJ⟩ : ∃ J : Nat, J = j + (l1.length + 1) := ⟨_, rfl⟩
      rw [← hJ] at e
      subst e
      have hJe : ((J : Int) == (j : Int) + ((l1.length : Int) + 1)) = true := by rw [beq_iff_eq]; omega
      clear hJ
      have hj := (cut_bad_at rdN l2 0 j (show Cu.bad j = _ from HB).symm).2.1
      obtain ⟨p3, hp3⟩ : ∃ p, p = (msC (.ok xs)).length := ⟨_, rfl⟩
      rw [← hp3]
      clear hp3 hry8 hoy8 hrz8 hrx8 hgyl hzg hg8 hf8 hh8
      simp only [msC, fwC, faC] at x0 x1 z0 z1 hB8 y0 y1 ⊢
      have hwj : IntKind.i64.wrap ((j : Int) + ((l1.length : Int) + 1)) = (j : Int) + ((l1.length : Int) + 1) := by rw [IntKind.wrap_i64]; omega
      go_wp2
      go_ret
      exact ⟨rfl, hB8⟩
    | ok ys =>
      have e := show cZ = _ from HZ
      simp only [joinC, Cu.mv, Cu.pre] at e
      have hxne := cut_ne rdN _ _ _ (show Cu.ok xs = _ from HA).symm
      have hyne := cut_ne rdN _ _ _ (show Cu.ok ys = _ from HB).symm
      have hxf := cut_few _ _ _ (show Cu.ok xs = _ from HA).symm
      have hyf := cut_few _ _ _ (show Cu.ok ys = _ from HB).symm
      obtain ⟨zs, hzs⟩ : ∃ zs, zs = xs.dropLast ++ ys.map (·.mv (l1.length + 1)) := ⟨_, rfl⟩
      rw [← hzs] at e
      subst e
      have hokz := cut_okN _ _ _ (show Cu.ok zs = _ from HZ2).symm
      have hokx := cut_okN _ _ _ (show Cu.ok xs = _ from HA).symm
      have hoky := cut_okN _ _ _ (show Cu.ok ys = _ from HB).symm
      obtain ⟨n, hxl⟩ : ∃ n, xs.length = n + 1 := ⟨xs.length - 1, by have := List.length_pos_iff.2 hxne; omega⟩
      obtain ⟨r, hyl⟩ : ∃ r, ys.length = r + 1 := ⟨ys.length - 1, by have := List.length_pos_iff.2 hyne; omega⟩
      have hzl : zs.length = n + r + 1 := by rw [hzs, List.length_append, List.length_map, List.length_dropLast, hxl, hyl]; omega
      have hzt : zs.take n = xs.take n := by
        have en : n = xs.dropLast.length := by rw [List.length_dropLast, hxl]; rfl
        rw [hzs]
        conv => lhs; rw [en, List.take_left]
        rw [List.dropLast_eq_take, hxl]
        rfl
      have hzd : zs.drop n = ys.map (·.mv (l1.length + 1)) := by
        have en : n = xs.dropLast.length := by rw [List.length_dropLast, hxl]; rfl
        rw [hzs, en, List.drop_left]
      have hnl : n ≤ 1048576 := by omega
      have hrl : r ≤ 1048576 := by omega
      simp only [msC, fwC, faC] at x0 x1 z0 z1 hB8 y0 y1 hrx8 hry8 hrz8 hoy8 hgyl hzg hpx hpz hbx ⊢
      obtain ⟨bx, ox, rfl, _⟩ := hrx8.pl hxne
      obtain ⟨bz, oz, rfl, _⟩ := hrz8.pl (by intro e; rw [e] at hzl; simp at hzl)
      have hzne : zs ≠ [] := by intro e; rw [e] at hzl; simp at hzl
      have dbx := hbx bx ox rfl hxne
      have dbz := hzg bz oz rfl hzne
      rcases hoy8.2 with ⟨_, h0⟩ | ⟨by_, cy, cur, hval, hge, hheap, hcy, _, _, _⟩
      · exact absurd (List.length_eq_zero_iff.1 h0) hyne
      simp only [Value.slice.injEq] at hval
      obtain ⟨rfl, _, rfl⟩ := hval
      have dby := hgyl by_ 0 rfl hyne
      have dby2 : w2.heap.size < by_ := by simp at hge; omega
      have hmy : ∀ t, t < r + 1 → M4 (w8.alloc (flt 0 0)) by_ (t * 4) (mx ys (l1.length + 1) 0 t) := by
        intro t ht
        have := hry8.at t (by rw [hyl]; exact ht)
        rw [Nat.zero_add] at this
        unfold mx
        rw [if_neg (by omega)]
        exact this
      have hfz : ∀ o, (w8.alloc (flt 0 0)).frozen? ⟨by_, o, none⟩ = false := fun o => frozen_of_row _ by_ o _ _ hheap
      have hya : ∀ t, t < r + 1 → (ys.getD t md).at_ ≤ 1048576 := by
        intro t ht
        have ht' : t < ys.length := by rw [hyl]; exact ht
        have := cut_at _ _ _ (show Cu.ok ys = _ from HB).symm (ys.getD t md) (by rw [List.getD_eq_getElem?_getD, List.getElem?_eq_getElem ht']; exact List.getElem_mem _)
        omega
      rw [hxl] at hpx ⊢
      rw [hyl] at ⊢
      rw [hzl] at hpz ⊢
      have nbx : bx ≠ by_ := by omega
      have nbz : bz ≠ by_ := by omega
      have HMY : Hid (∀ t, t < r + 1 → M4 (w8.alloc (flt 0 0)) by_ (t * 4) (mx ys (l1.length + 1) 0 t)) := hmy
      have HFZ : Hid (∀ o, (w8.alloc (flt 0 0)).frozen? ⟨by_, o, none⟩ = false) := hfz
      have HYA : Hid (∀ t, t < r + 1 → (ys.getD t md).at_ ≤ 1048576) := hya
      have HZT : Hid (zs.take n = xs.take n) := hzt
      have HZD : Hid (zs.drop n = ys.map (·.mv (l1.length + 1))) := hzd
      have HOX : Hid (∀ m ∈ xs, okN m) := hokx
      have HOY : Hid (∀ m ∈ ys, okN m) := hoky
      have HRX : Hid (Mr (w8.alloc (flt 0 0)) (some ⟨bx, ox, none⟩) xs) := hrx8
      have HRZ : Hid (Mr (w8.alloc (flt 0 0)) (some ⟨bz, oz, none⟩) zs) := hrz8
      have HXL : Hid (xs.length = n + 1) := hxl
      have HYL : Hid (ys.length = r + 1) := hyl
      have HZL : Hid (zs.length = n + r + 1) := hzl
      clear hzs HZ hg8 hf8 hh8 hxf hyf hoy8 hheap hbx hzg hgyl hry8 hge hmy hfz hya hzt hzd hokx hoky hokz hrx8 hrz8 hxl hyl hzl hxne hyne hzne q8 es hs47
      go_wp2
      · exfalso
        rename_i h
        rcases h with (h | h) | h
        · rw [beq_iff_eq] at h; omega
        · rw [beq_iff_eq] at h; omega
        · rw [bne_iff_ne] at h; omega
      generalize hw8 : w8.alloc (.cells #[.int .i64 0, .int .i64 0] 27) = w9 at *
      clear hw8
      go_loopw [13] (fun i wr => ∃ k : Nat, k ≤ r + 1 ∧ i = .int .i64 k ∧ Oth by_ w9 wr ∧ Hid ((∀ t, t < r + 1 → M4 wr by_ (t * 4) (mx ys (l1.length + 1) k t)) ∧ ∀ o, wr.frozen? ⟨by_, o, none⟩ = false)) (fun i _ => r + 1 - (intOf i).toNat)
      case atStart => exact ⟨0, Nat.zero_le _, rfl, Oth.refl _ _, HMY, HFZ⟩
      case round =>
        obtain ⟨k, hk, rfl, hot, hmm⟩ := hrel
        by_cases hlt : k < r + 1
        · obtain ⟨m, hm⟩ : ∃ m, m = ys.getD k md := ⟨_, rfl⟩
          have hmk := (show _ ∧ _ from hmm).1 k hlt
          have hmx : mx ys (l1.length + 1) k k = m := by unfold mx; rw [if_neg (by omega), hm]
          rw [hmx] at hmk
          obtain ⟨m1, m2, m3, m4⟩ := hmk
          have hfk := (show _ ∧ _ from hmm).2 (k * 4 + 3)
          have hma := (show ∀ t, t < r + 1 → _ from HYA) k hlt
          rw [← hm] at hma
          have HM : Hid (m = ys.getD k md) := hm
          have hwm : IntKind.i64.wrap ((m.at_ : Int) + ((l1.length : Int) + 1)) = (m.at_ : Int) + ((l1.length : Int) + 1) := i64_small _ (by omega) (by omega)
          clear hm hmx
          go_wp2
          go_roundw
          case rel =>
            refine ⟨k + 1, by omega, by go_num, hot.set _ _, ?_, fun o => by simpa using (show _ ∧ _ from hmm).2 o⟩
            intro t ht
            have := M4_set (show _ ∧ _ from hmm).1 k (m.at_ + (l1.length + 1)) hlt t ht
            have e : (if t = k then { mx ys (l1.length + 1) k t with at_ := m.at_ + (l1.length + 1) } else mx ys (l1.length + 1) k t) = mx ys (l1.length + 1) (k + 1) t := by
              unfold mx
              by_cases e : t = k
              · subst e
                rw [if_pos rfl, if_neg (Nat.lt_irrefl _), if_pos (Nat.lt_succ_self _), ← show m = _ from HM]
                rfl
              · rw [if_neg e]
                by_cases h : t < k
                · rw [if_pos h, if_pos (by omega)]
                · rw [if_neg h, if_neg (by omega)]
            rw [e] at this
            simpa using this
          case measure => simp [intOf]; omega
        · have hke : k = r + 1 := by omega
          subst hke
          have mx9 := hot.mr (show Mr w9 _ _ from HRX) nbx
          have mz9 := hot.mr (show Mr w9 _ _ from HRZ) nbz
          have my9 : Mr wr (some ⟨by_, 0, none⟩) (ys.map (·.mv (l1.length + 1))) := by
            refine ⟨fun _ => ⟨by_, 0, rfl, fun t ht => ?_⟩⟩
            have ht2 : t < r + 1 := by rw [List.length_map, show ys.length = _ from HYL] at ht; exact ht
            have := (show _ ∧ _ from hmm).1 t ht2
            have e : mx ys (l1.length + 1) (r + 1) t = (ys.map (·.mv (l1.length + 1))).getD t md := by
              have ht3 : t < ys.length := by rw [show ys.length = _ from HYL]; exact ht2
              unfold mx
              rw [if_pos ht2]
              simp [List.getD_eq_getElem?_getD, ht3]
            rw [e] at this
            rw [Nat.zero_add]
            exact this
          have hBw : Below w.heap.size w wr := hB8.trans (hot.below (by have := hB8.size; omega))
          have hsm1 : ∀ W, Mr W (some ⟨bz, oz, none⟩) (zs.take n) → Mr W (some ⟨bx, ox, none⟩) (xs.take n) → Calls Tryd.prog 12 #[.slice (some ⟨bz, oz, none⟩) n pz, .slice (some ⟨bx, ox, none⟩) n px, .bool true] W fun e w' => e = .returned (.bool true) ∧ Below W.heap.size W w' := by
            intro W m1 m2
            have l1' : (zs.take n).length = n := by rw [List.length_take, show zs.length = _ from HZL]; omega
            have l2' : (xs.take n).length = n := by rw [List.length_take, show xs.length = _ from HXL]; omega
            have := same_any true (some ⟨bz, oz, none⟩) (some ⟨bx, ox, none⟩) pz px (zs.take n) (xs.take n) (by rw [l1', l2']) (by rw [l1']; omega) W m1 m2 (by rw [show zs.take n = _ from HZT]; exact fun t _ => eqM_refl _ _) (okN_get fun m hm => (show ∀ m ∈ xs, okN m from HOX) m (List.mem_of_mem_take hm))
            rwa [l1', l2'] at this
          have hsm2 : ∀ W, Mr W (some ⟨bz, oz + n * 4, none⟩) (zs.drop n) → Mr W (some ⟨by_, 0, none⟩) (ys.map (·.mv (l1.length + 1))) → Calls Tryd.prog 12 #[.slice (some ⟨bz, oz + n * 4, none⟩) (r + 1) (pz - n), .slice (some ⟨by_, 0, none⟩) (r + 1) py, .bool true] W fun e w' => e = .returned (.bool true) ∧ Below W.heap.size W w' := by
            intro W m1 m2
            have l1' : (zs.drop n).length = r + 1 := by rw [List.length_drop, show zs.length = _ from HZL]; omega
            have l2' : (ys.map (·.mv (l1.length + 1))).length = r + 1 := by rw [List.length_map, show ys.length = _ from HYL]
            have := same_any true (some ⟨bz, oz + n * 4, none⟩) (some ⟨by_, 0, none⟩) (pz - n) py (zs.drop n) (ys.map (·.mv (l1.length + 1))) (by rw [l1', l2']) (by rw [l1']; omega) W m1 m2 (by rw [show zs.drop n = _ from HZD]; exact fun t _ => eqM_refl _ _) (okN_get fun m hm => by rw [List.mem_map] at hm; obtain ⟨m0, h0, rfl⟩ := hm; exact (show ∀ m ∈ ys, okN m from HOY) m0 h0)
            rwa [l1', l2'] at this
          have j1 := fun W => run_slice_hi bz oz (n + r + 1) pz n (by omega) W
          have j2 := fun W => run_slice_hi bx ox (n + 1) px n (by omega) W
          have j3 := fun W => run_slice_lo bz oz (n + r + 1) pz n (by omega) (by omega) (by omega) W
          rw [show n + r + 1 - n = r + 1 by omega] at j3
          have hw1 : IntKind.i64.wrap ((n : Int) + 1 - 1) = (n : Int) := by rw [show (n : Int) + 1 - 1 = n by omega]; exact i64_small _ (by omega) (by omega)
          have hw2 : IntKind.i64.wrap (((n + 1 : Nat) : Int) - 1) = (n : Int) := by rw [show ((n + 1 : Nat) : Int) - 1 = n by omega]; exact i64_small _ (by omega) (by omega)
          have hw3 : IntKind.i64.wrap (n : Int) = (n : Int) := i64_small _ (by omega) (by omega)
          have K1 : Hid (Mr wr.drew (some ⟨bz, oz, none⟩) (zs.take n)) := (mz9.take n).drew
          have K2 : Hid (Mr wr.drew (some ⟨bx, ox, none⟩) (xs.take n)) := (mx9.take n).drew
          have K3 : Hid (Mr wr.drew (some ⟨bz, oz + n * 4, none⟩) (zs.drop n)) := (mz9.drop n).drew
          have K4 : Hid (Mr wr.drew (some ⟨by_, 0, none⟩) (ys.map (·.mv (l1.length + 1)))) := my9.drew
          clear mx9 mz9 my9 hmm hot
          go_wp2
          go_region_held2 (fun _ => True) (trivial) (first
            | (go_at_call_of 12 (Value.slice (some ⟨bx, ox, none⟩) n px); refine (hsm1 _ (show Mr _ _ _ from K1) (show Mr _ _ _ from K2)).mono ?_; rintro e w15 ⟨rfl, hb15⟩; have k3 := Mr.up (show Mr wr.drew (some ⟨bz, oz + n * 4, none⟩) (zs.drop n) from K3) hb15; have k4 := Mr.up (show Mr wr.drew (some ⟨by_, 0, none⟩) (ys.map (·.mv (l1.length + 1))) from K4) hb15)
            | (go_at_call 12; refine Calls.mono (hsm2 w15 k3 k4) ?_; rintro e w16 ⟨rfl, hb16⟩))
          all_goals
            go_wp2
            go_ret
            exact ⟨rfl, Below.thn (Below.thn hBw.drew hb15) hb16⟩
end Go.Proofs.YtknpdjbcemgenaaDoor
