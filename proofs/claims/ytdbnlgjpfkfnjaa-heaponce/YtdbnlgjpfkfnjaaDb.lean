/-
  A heap, plainly and as it lies; which cells are cells of it.
-/
import Derived.Test.YtdbnlgjpfkfnjaaDa
import Derived.BigQuiet
namespace Go.Proofs.Ytdbnlgjpfkfnjaa
open Go.RowKit
open Go.Lib
set_option maxRecDepth 100000

/-- Two words of a complex number. -/
abbrev Wz := Nat × Nat
def cx (z : Wz) : Value := .complex .f64 z.1 z.2
def ltZ (z : Wz) : Prop := z.1 < 2 ^ 64 ∧ z.2 < 2 ^ 64
def feW (x y : Wz) : Bool := Op.floatEq .f64 x.1 y.1 && Op.floatEq .f64 x.2 y.2

/-- Any two complex numbers held against one another. -/
theorem eq_cx (x y : Wz) (w : World) : (Op.equalIn 9999 53 (.complex .f64 x.1 x.2) (.complex .f64 y.1 y.2)).run Try.prog w = .ok (feW x y) w := by
  rw [show (9999 : Nat) = 9998 + 1 from rfl]
  unfold Op.equalIn feW
  simp [run_underlying (show Try.prog.underlying 53 = some (.complex .f64) by kernel_rfl)]

abbrev Zn := Int × Int
def okZ (z : Zn) : Prop := z.1.natAbs ≤ 16777216 ∧ z.2.natAbs ≤ 16777216
def wz (z : Zn) : Wz := (fl z.1, fl z.2)
theorem okZ53 {z : Zn} (h : okZ z) : z.1.natAbs < 2 ^ 53 ∧ z.2.natAbs < 2 ^ 53 := by unfold okZ at h; omega
theorem wz_lt {z : Zn} (h : okZ z) : ltZ (wz z) := ⟨fl_lt _ (okZ53 h).1, fl_lt _ (okZ53 h).2⟩
theorem vc_wz {z : Zn} (h : okZ z) : vc (wz z).1 (wz z).2 = true := by
  unfold vc wz
  simp only
  rw [vp_fl _ h.1, vp_fl _ h.2]; rfl
theorem wz_of {z : Wz} (h : vc z.1 z.2 = true) : okZ (nb z.1, nb z.2) ∧ wz (nb z.1, nb z.2) = z := by
  obtain ⟨h1, h2⟩ := vc_parts h
  obtain ⟨a1, a2⟩ := vp_true h1
  obtain ⟨b1, b2⟩ := vp_true h2
  refine ⟨⟨a1, b1⟩, ?_⟩
  unfold wz
  rw [← a2, ← b2]
theorem wz_inj {z y : Zn} (hz : okZ z) (hy : okZ y) (h : wz z = wz y) : z = y := by
  unfold wz at h
  simp only [Prod.mk.injEq] at h
  exact Prod.ext (fl_inj (okZ53 hz).1 (okZ53 hy).1 h.1) (fl_inj (okZ53 hz).2 (okZ53 hy).2 h.2)

/-- Floats that are numbers' parts are equal just if their words are. -/
theorem feq_fl {p q : Int} (hp : p.natAbs ≤ 16777216) (hq : q.natAbs ≤ 16777216) : Op.floatEq .f64 (fl p) (fl q) = decide (p = q) := by
  have h1 := rep_order (rep_fl p (by omega)) (rep_fl q (by omega))
  unfold Op.floatEq
  rw [h1]
  by_cases h : p = q
  · rw [h]; simp
  · have : compare p q ≠ .eq := by simpa [Int.compare_eq_eq] using h
    simp [h]
theorem feW_wz {z y : Zn} (hz : okZ z) (hy : okZ y) : feW (wz z) (wz y) = decide (wz z = wz y) := by
  unfold feW wz
  rw [feq_fl hz.1 hy.1, feq_fl hz.2 hy.2, Bool.eq_iff_iff]
  simp only [Bool.and_eq_true, decide_eq_true_eq, Prod.mk.injEq]
  constructor
  · rintro ⟨a, b⟩; rw [a, b]; exact ⟨rfl, rfl⟩
  · rintro ⟨a, b⟩; exact ⟨fl_inj (okZ53 hz).1 (okZ53 hy).1 a, fl_inj (okZ53 hz).2 (okZ53 hy).2 b⟩
theorem feW_vc {z y : Wz} (hz : vc z.1 z.2 = true) (hy : vc y.1 y.2 = true) : feW z y = decide (z = y) := by
  obtain ⟨h1, h2⟩ := wz_of hz
  obtain ⟨h3, h4⟩ := wz_of hy
  have := feW_wz h1 h3
  rwa [h2, h4] at this
theorem vc_zero : vc 0 0 = true := by
  have := vc_wz (z := (0, 0)) (by unfold okZ; simp)
  exact this
def zeroV (z : Wz) : Bool := feW z (0, 0) && vc z.1 z.2
theorem zeroV_eq (z : Wz) : zeroV z = decide (z = (0, 0)) := by
  unfold zeroV
  cases hv : vc z.1 z.2 with
  | true => rw [feW_vc hv vc_zero, Bool.and_true]
  | false =>
    rw [Bool.and_false]
    symm
    rw [decide_eq_false_iff_not]
    intro e
    rw [e, vc_zero] at hv
    cases hv

theorem zero_any (z : Wz) (w : World) (hz : ltZ z) :
    Calls Try.prog 38 #[.complex .f64 z.1 z.2] w fun e w' => e = .returned (.bool (zeroV z)) ∧ w' = w := by
  obtain ⟨z1, z2⟩ := hz
  go_enter Try.func38, Try.ntmps38
  go_wp2_with (go_at_call 37; refine (valid_any _ _ _ z1 z2).mono ?_; rintro e w' ⟨rfl, rfl⟩)
  all_goals
    go_ret
    refine ⟨ret_bool ?_, rfl⟩
    unfold zeroV vc feW Op.floatEq
    simp_all


/-- A cell; a node; a heap. -/
structure Cl where
  k : Int
  z : Wz
  b : Bool
  a : Int
  deriving DecidableEq
structure Nd where
  s : Int
  t : Int
  c : Cl
  deriving DecidableEq
structure Hm where
  ns : List Nd
  ps : List (Cl × Cl)
  th : Nat
  up : Nat
def cl0 : Cl := ⟨0, (0, 0), false, 0⟩
def nd0 : Nd := ⟨0, 0, cl0⟩
def hm0 : Hm := ⟨[], [], 0, 0⟩
def clC (c : Cl) : List Value := [.int .i64 c.k, .complex .f64 c.z.1 c.z.2, .bool c.b, .int .i64 c.a]
def ndC (n : Nd) : List Value := [.int .i64 n.s, .int .i64 n.t, .int .i64 n.c.k, .complex .f64 n.c.z.1 n.c.z.2, .bool n.c.b, .int .i64 n.c.a]
def prC (p : Cl × Cl) : List Value := [.int .i64 p.1.k, .complex .f64 p.1.z.1 p.1.z.2, .bool p.1.b, .int .i64 p.1.a, .int .i64 p.2.k, .complex .f64 p.2.z.1 p.2.z.2, .bool p.2.b, .int .i64 p.2.a]
def clV (c : Cl) : Value := .agg #[.int .i64 c.k, .complex .f64 c.z.1 c.z.2, .bool c.b, .int .i64 c.a]
def ndV (n : Nd) : Value := .agg #[.int .i64 n.s, .int .i64 n.t, .int .i64 n.c.k, .complex .f64 n.c.z.1 n.c.z.2, .bool n.c.b, .int .i64 n.c.a]
theorem ndC_len (n : Nd) : (ndC n).length = 6 := rfl
theorem prC_len (p : Cl × Cl) : (prC p).length = 8 := rfl
theorem ndC_one (n : Nd) : ∀ u ∈ ndC n, u.oneCell' = true := by
  intro u hu; simp only [ndC, List.mem_cons, List.not_mem_nil, or_false] at hu; rcases hu with rfl | rfl | rfl | rfl | rfl | rfl <;> rfl
theorem prC_one (p : Cl × Cl) : ∀ u ∈ prC p, u.oneCell' = true := by
  intro u hu; simp only [prC, List.mem_cons, List.not_mem_nil, or_false] at hu; rcases hu with rfl | rfl | rfl | rfl | rfl | rfl | rfl | rfl <;> rfl
theorem clC_one (c : Cl) : ∀ u ∈ clC c, u.oneCell' = true := by
  intro u hu; simp only [clC, List.mem_cons, List.not_mem_nil, or_false] at hu; rcases hu with rfl | rfl | rfl | rfl <;> rfl
/-- Is there one of that number? -/
def hasI (n : Nat) (a : Int) : Bool := decide (0 ≤ a ∧ a < n)
/-- Is it a cell of a heap of so many nodes and pairs? -/
def isC (nn np : Nat) (c : Cl) : Bool :=
  if c.k = 1 then vc c.z.1 c.z.2 && !c.b && decide (c.a = 0)
  else if c.k = 2 then zeroV c.z && decide (c.a = 0)
  else if c.k = 3 then zeroV c.z && !c.b && decide (c.a = 0)
  else if c.k = 4 then zeroV c.z && !c.b && hasI np c.a
  else if c.k = 5 then zeroV c.z && !c.b && hasI nn c.a
  else false
/-- It lies there, its rows and itself among the blocks S. -/
structure HpW (tH tP : TypeId) (S : Nat → Prop) (w : World) (b : Nat) (H : Hm) : Prop where
  lt : ∀ k, S k → k < w.heap.size
  bS : S b
  ex : ∃ vn vp, Bk w b tH [vn, vp, .int .i64 H.th, .int .i64 H.up] ∧ Rows_ w 60 6 ndC vn H.ns ∧ Rows_ w tP 8 prC vp H.ps ∧ (∀ k, vn.ownBlock = some k → S k) ∧ ∀ k, vp.ownBlock = some k → S k
section
variable {tH tP : TypeId} {S S' : Nat → Prop} {w w' : World} {b : Nat} {H : Hm}
theorem HpW.keep (h : HpW tH tP S w b H) (hs : w.heap.size ≤ w'.heap.size) (hk : ∀ k, S k → w'.heap[k]? = w.heap[k]?) : HpW tH tP S w' b H := by
  obtain ⟨h1, h2, vn, vp, h4, h5, h6, h7, h8⟩ := h
  exact ⟨fun k hk' => Nat.lt_of_lt_of_le (h1 k hk') hs, h2, vn, vp, (hk b h2).trans h4, h5.keep fun g hg => hk g (h7 g hg), h6.keep fun g hg => hk g (h8 g hg), h7, h8⟩
theorem HpW.up (h : HpW tH tP S w b H) (hb : Below w.heap.size w w') : HpW tH tP S w' b H := h.keep hb.size fun k hk => hb.block k (h.lt k hk)
theorem HpW.but (h : HpW tH tP S w b H) (hb : ButS S' w w') (hn : ∀ k, S k → ¬ S' k) : HpW tH tP S w' b H := h.keep hb.size fun k hk => hb.block k (h.lt k hk) (hn k hk)
theorem HpW.mono (h : HpW tH tP S w b H) (hs : ∀ k, S k → S' k) (hl : ∀ k, S' k → k < w.heap.size) : HpW tH tP S' w b H := by
  obtain ⟨h1, h2, vn, vp, h4, h5, h6, h7, h8⟩ := h
  exact ⟨hl, hs _ h2, vn, vp, h4, h5, h6, fun k hk => hs _ (h7 k hk), fun k hk => hs _ (h8 k hk)⟩
end

theorem hasN_any {tP : TypeId} {S : Nat → Prop} {w : World} {b : Nat} {H : Hm} (h : HpW 73 tP S w b H) (a : Int) :
    Calls Try.prog 34 #[.pointer (some ⟨b, 0, none⟩), .int .i64 a] w fun e w' => e = .returned (.bool (hasI H.ns.length a)) ∧ w' = w := by
  obtain ⟨_, _, vn, vp, hB, hN, hP, _, _⟩ := h
  obtain ⟨ao, cap, rfl, hc1, hc2⟩ := hN.slice
  have c0 : w.cell? ⟨b, 0, none⟩ = _ := hB.cell 0
  clear hN hP hB
  by_cases h0 : 0 ≤ a
  · go_enter Try.func34, Try.ntmps34
    go_wp2
    all_goals
      go_ret
      refine ⟨ret_bool ?_, rfl⟩
      unfold hasI
      simp_all
  · go_enter Try.func34, Try.ntmps34
    go_wp2
    all_goals
      go_ret
      refine ⟨ret_bool ?_, rfl⟩
      unfold hasI
      simp_all
      try omega
theorem hasP_any {tP : TypeId} {S : Nat → Prop} {w : World} {b : Nat} {H : Hm} (h : HpW 73 tP S w b H) (a : Int) :
    Calls Try.prog 35 #[.pointer (some ⟨b, 0, none⟩), .int .i64 a] w fun e w' => e = .returned (.bool (hasI H.ps.length a)) ∧ w' = w := by
  obtain ⟨_, _, vn, vp, hB, hN, hP, _, _⟩ := h
  obtain ⟨ao, cap, rfl, hc1, hc2⟩ := hP.slice
  have c0 : w.cell? ⟨b, 1, none⟩ = _ := hB.cell 1
  clear hN hP hB
  by_cases h0 : 0 ≤ a
  · go_enter Try.func35, Try.ntmps35
    go_wp2
    all_goals
      go_ret
      refine ⟨ret_bool ?_, rfl⟩
      unfold hasI
      simp_all
  · go_enter Try.func35, Try.ntmps35
    go_wp2
    all_goals
      go_ret
      refine ⟨ret_bool ?_, rfl⟩
      unfold hasI
      simp_all
      try omega

set_option maxHeartbeats 2000000 in
theorem isCell_any {tP : TypeId} {S : Nat → Prop} {w : World} {b : Nat} {H : Hm} (h : HpW 73 tP S w b H) (c : Cl) (hz : ltZ c.z) :
    Calls Try.prog 31 #[.pointer (some ⟨b, 0, none⟩), clV c] w fun e w' => e = .returned (.bool (isC H.ns.length H.ps.length c)) ∧ Below w.heap.size w w' := by
  obtain ⟨k, ⟨x, y⟩, r, a⟩ := c
  unfold clV isC
  have hV := fun W => valid_vc x y W hz.1 hz.2
  have hZ := fun W => zero_any (x, y) W hz
  have hn := fun (W : World) (hb : Below w.heap.size w W) => hasN_any (h.up hb) a
  have hp := fun (W : World) (hb : Below w.heap.size w W) => hasP_any (h.up hb) a
  dsimp only at hV hZ ⊢
  generalize vc x y = V at hV ⊢
  generalize zeroV (x, y) = Z at hZ ⊢
  generalize hasI H.ns.length a = N at hn ⊢
  generalize hasI H.ps.length a = P at hp ⊢
  have hb1 : ∀ o, Below w.heap.size w (w.alloc o) := fun o => below_alloc w o
  by_cases k1 : k = 1
  · subst k1
    by_cases ha : a = 0 <;> cases V <;> cases r <;>
    · go_enter Try.func31, Try.ntmps31
      go_wp2_with (go_at_call 37; refine (hV _).mono ?_; rintro e w' ⟨rfl, rfl⟩)
      all_goals
        go_ret
        exact ⟨ret_bool (by simp_all), hb1 _⟩
  · by_cases k2 : k = 2
    · subst k2
      by_cases ha : a = 0 <;> cases Z <;> cases r <;>
      · go_enter Try.func31, Try.ntmps31
        go_wp2_with (go_at_call 38; refine (hZ _).mono ?_; rintro e w' ⟨rfl, rfl⟩)
        all_goals
          go_ret
          exact ⟨ret_bool (by simp_all), hb1 _⟩
    · by_cases k3 : k = 3
      · subst k3
        by_cases ha : a = 0 <;> cases Z <;> cases r <;>
        · go_enter Try.func31, Try.ntmps31
          go_wp2_with (go_at_call 38; refine (hZ _).mono ?_; rintro e w' ⟨rfl, rfl⟩)
          all_goals
            go_ret
            exact ⟨ret_bool (by simp_all), hb1 _⟩
      · by_cases k4 : k = 4
        · subst k4
          cases Z <;> cases r <;>
          · go_enter Try.func31, Try.ntmps31
            go_wp2_with (first
              | (go_at_call 38; refine (hZ _).mono ?_; rintro e w' ⟨rfl, rfl⟩)
              | (go_at_call 35; refine (hp _ (hb1 _)).mono ?_; rintro e w' ⟨rfl, rfl⟩))
            all_goals
              go_ret
              exact ⟨ret_bool (by simp_all), hb1 _⟩
        · by_cases k5 : k = 5
          · subst k5
            cases Z <;> cases r <;>
            · go_enter Try.func31, Try.ntmps31
              go_wp2_with (first
                | (go_at_call 38; refine (hZ _).mono ?_; rintro e w' ⟨rfl, rfl⟩)
                | (go_at_call 34; refine (hn _ (hb1 _)).mono ?_; rintro e w' ⟨rfl, rfl⟩))
              all_goals
                go_ret
                exact ⟨ret_bool (by simp_all), hb1 _⟩
          · go_enter Try.func31, Try.ntmps31
            go_wp2
            go_ret
            exact ⟨ret_bool (by simp_all), hb1 _⟩
end Go.Proofs.Ytdbnlgjpfkfnjaa
