/-
  3 texts in one: what each proves stands at its head.
-/
import Derived.Test.YtaneibojiamjeaaGreatDoorUl
/-
  The walk over an expression and its parts, whatever is done at each: by a state that the closure keeps.
-/
namespace Go.Proofs.YtaneibojiamjeaaGreatDoor
open Go.RowKit Go.Maps
set_option maxRecDepth 100000

section
variable {σ : Type} (see : (List UInt8 → Nat) → Int → List UInt8 → σ → σ)
mutual
/-- What a walk makes of a state: at each expression, within these names. -/
def gwE (env : List (List UInt8)) : Ex → σ → σ
  | .mk op name tail _ _ _ xs _, s => gwL env op name tail 0 xs (see (cnt env) op name s)
def gwL (env : List (List UInt8)) (op : Int) (name tail : List UInt8) (i : Nat) : List Ex → σ → σ
  | [], s => s
  | x :: xs, s => gwL env op name tail (i + 1) xs (gwE (bnd6 op name tail i ++ env) x s)
end
section
variable (env : List (List UInt8)) (op : Int) (name tail : List UInt8)
theorem gwE_mk (ty p q : Int) (xs : List Ex) (i : Nat) (s : σ) : gwE see env (.mk op name tail ty p q xs i) s = gwL see env op name tail 0 xs (see (cnt env) op name s) := by rw [gwE]
theorem gwL_nil (i : Nat) (s : σ) : gwL see env op name tail i [] s = s := by rw [gwL]
theorem gwL_cons (i : Nat) (x : Ex) (xs : List Ex) (s : σ) : gwL see env op name tail i (x :: xs) s = gwL see env op name tail (i + 1) xs (gwE see (bnd6 op name tail i ++ env) x s) := by rw [gwL]
theorem gwL_step : ∀ (xs : List Ex) (i k : Nat) (s : σ), k < xs.length → gwL see env op name tail i (xs.take (k + 1)) s = gwE see (bnd6 op name tail (i + k) ++ env) (xs.getD k ed) (gwL see env op name tail i (xs.take k) s)
  | [], _, _, _, h => by simp at h
  | x :: xs, i, 0, s, _ => by simp [gwL_cons, gwL_nil]
  | x :: xs, i, k + 1, s, h => by
    rw [List.take_succ_cons, gwL_cons, gwL_step xs (i + 1) k _ (by simpa using h), List.take_succ_cons, gwL_cons, List.getD_cons_succ, show i + 1 + k = i + (k + 1) by omega]
end
mutual
/-- A measure that each look raises by one at most. -/
theorem gw_mu {μ : σ → Nat} (hm : ∀ cn op name s, μ (see cn op name s) ≤ μ s + 1) : ∀ (x : Ex) (env : List (List UInt8)) (s : σ), μ (gwE see env x s) ≤ μ s + szE x
  | .mk op name tail ty p q xs i, env, s => by
    rw [gwE_mk, szE_mk]
    have h1 := gw_muL hm xs env op name tail 0 (see (cnt env) op name s)
    have h2 := hm (cnt env) op name s
    omega
theorem gw_muL {μ : σ → Nat} (hm : ∀ cn op name s, μ (see cn op name s) ≤ μ s + 1) : ∀ (xs : List Ex) (env : List (List UInt8)) (op : Int) (name tail : List UInt8) (i : Nat) (s : σ), μ (gwL see env op name tail i xs s) ≤ μ s + szL xs
  | [], env, op, name, tail, i, s => by rw [gwL_nil, szL_nil]; omega
  | x :: xs, env, op, name, tail, i, s => by
    rw [gwL_cons, szL_cons]
    have h1 := gw_mu hm x (bnd6 op name tail i ++ env) s
    have h2 := gw_muL hm xs env op name tail (i + 1) (gwE see (bnd6 op name tail i ++ env) x s)
    omega
end
end

/-- What a closure of two captured values does at each expression, over a state that lies in the blocks D. -/
structure Meets {σ : Type} (f : Nat) (p1 p2 : Value) (b : Nat) (D : Nat → Prop) (S : World → σ → Prop) (see : (List UInt8 → Nat) → Int → List UInt8 → σ → σ) (μ : σ → Nat) (M : Nat) : Prop where
  meet : ∀ (w : World) (env : List (List UInt8)) (nb : Nat) (s : σ) (op : Int) (name : List UInt8) (v2 v3 v4 : Value) (ao : Option Addr) (n c : Nat) (at_ : Int), S w s → μ s < M → Cn w b nb (cnt env) → name.length ≤ maxLen →
    Calls Tryz.prog f #[.agg #[.int .i64 op, .string (bs name), v2, v3, v4, .slice ao n c, .int .i64 at_], p1, p2] w fun e w' => e = .returned (.tuple #[]) ∧ S w' (see (cnt env) op name s) ∧ ButS D w w'
  keep : ∀ (w w' : World) (s : σ), S w s → ButS (· = b) w w' → S w' s
  low : ∀ (w : World) (s : σ), S w s → ∀ k, D k → k < w.heap.size
  ne : ¬ D b
  step : ∀ cn op name s, μ (see cn op name s) ≤ μ s + 1
  enter : ∀ (args : Array Value) (w : World), (callFunc f args).run Tryz.prog w = .ok (.enter f args) w
theorem Meets.up {σ : Type} {f : Nat} {p1 p2 : Value} {b : Nat} {D : Nat → Prop} {S : World → σ → Prop} {see : (List UInt8 → Nat) → Int → List UInt8 → σ → σ} {μ : σ → Nat} {M : Nat} (h : Meets f p1 p2 b D S see μ M) {w w' : World} {s : σ} (hs : S w s) (hb : Below w.heap.size w w') : S w' s := h.keep w w' s hs (.below hb)
/-- The blocks that such a walk writes to. -/
def Wrt (D : Nat → Prop) (b : Nat) (k : Nat) : Prop := D k ∨ k = b

set_option maxHeartbeats 8000000 in
theorem walkG_any {σ : Type} {f : Nat} {p1 p2 : Value} {b : Nat} {D : Nat → Prop} {S : World → σ → Prop} {see : (List UInt8 → Nat) → Int → List UInt8 → σ → σ} {μ : σ → Nat} {M : Nat} (HM : Meets f p1 p2 b D S see μ M) : ∀ (n : Nat) (x : Ex), szE x ≤ n → n ≤ 262144 → lnE x → ∀ (w : World) (A : Nat → Prop) (us : List Value) (env : List (List UInt8)) (nb : Nat) (s : σ), ExW w A x us → (∀ k, A k → ¬ Wrt D b k) → S w s → μ s + szE x ≤ M → Cn w b nb (cnt env) → nb + 4 * szE x ≤ 549755813888 → env.length + 2 * szE x ≤ 549755813888 →
    Calls Tryz.prog 53 #[.map (some b), .agg us.toArray, .func (.func f) #[] #[p1, p2]] w fun e w' => e = .returned (.tuple #[]) ∧ S w' (gwE see env x s) ∧ Cn w' b (nb + 4 * szE x - 4) (cnt env) ∧ ButS (Wrt D b) w w' := by
  intro n
  have HMH : Hid (Meets f p1 p2 b D S see μ M) := HM
  clear HM
  induction n with
  | zero => intro x h; have := szE_pos x; omega
  | succ n ih =>
    intro x ht hn hw w A us env nb s hx hA hS hmu hN hnb hen
    have IH : Hid _ := ih
    clear ih
    have HA : Hid (∀ k, A k → ¬ Wrt D b k) := hA
    clear hA
    cases hx with
    | mk hl =>
      rename_i op name tail ty p q xs i ao c
      unfold lnE at hw
      rw [wfE_mk] at hw
      obtain ⟨hnl, htl⟩ := shp_len hw.1
      rw [szE_mk] at ht hnb hen hmu
      have hlen := length_szL xs
      have hb0 := below_alloc w (.cells #[.int .i64 op, .string (bs name), .string (bs tail), .int .i64 ty, .complex .f64 (fl p) (fl q), .slice ao xs.length c, .int .i64 i] 43)
      have hL := Bk.new w 43 #[.int .i64 op, .string (bs name), .string (bs tail), .int .i64 ty, .complex .f64 (fl p) (fl q), .slice ao xs.length c, .int .i64 i]
      have hU0 : ButS (Wrt D b) w (w.alloc (.cells #[.int .i64 op, .string (bs name), .string (bs tail), .int .i64 ty, .complex .f64 (fl p) (fl q), .slice ao xs.length c, .int .i64 i] 43)) := .below hb0
      have HLW : Hid (∀ k, Wrt D b k → k < w.heap.size) := fun k h => by
        rcases h with h | h
        · exact HMH.out.low w s hS k h
        · rw [h]; exact hN.lt
      have hS0 := HMH.out.up hS hb0
      have hN0 := hN.up hb0
      have hl0 := hl.up hb0
      go_enter Tryz.func53, Tryz.ntmps53
      go_upto_region 1 with fail
      generalize w.alloc (.cells #[.int .i64 op, .string (bs name), .string (bs tail), .int .i64 ty, .complex .f64 (fl p) (fl q), .slice ao xs.length c, .int .i64 i] 43) = W at *
      obtain ⟨c0, c1, c2, c3, c4, c5, c6⟩ := Bk.seven (show Bk W w.heap.size 43 [_, _, _, _, _, _, _] from hL)
      have hm := HMH.out.meet W env nb s op name (.string (bs tail)) (.int .i64 ty) (.complex .f64 (fl p) (fl q)) ao xs.length c i hS0 (by omega) hN0 (by unfold maxLen; omega)
      go_wp2_with fail
      rw [HMH.out.enter, Oper.upon_enter]
      refine hm.mono ?_
      rintro e w1 ⟨rfl, hS1, hO1⟩
      dsimp only
      have hO1' : ButS (Wrt D b) W w1 := hO1.mono fun k h => .inl h
      have hL1 := hO1.bk hL (fun h => by have := HLW.out _ (.inl h); omega)
      have hl1 := hO1'.el hl0 HA.out
      have hN1 := hN0.but hO1 HMH.out.ne
      have hU1 := hU0.trans hO1'
      obtain ⟨r1, hr1⟩ : ∃ r1, r1 = see (cnt env) op name s := ⟨_, rfl⟩
      have hmr : μ r1 ≤ μ s + 1 := by rw [hr1]; exact HMH.out.step _ _ _ _
      rw [← hr1] at hS1
      have HE : Hid (gwE see env (.mk op name tail ty p q xs i) s = gwL see env op name tail 0 xs r1) := by rw [hr1]; exact gwE_mk ..
      have c5 : w1.cell? ⟨w.heap.size, 5, none⟩ = some (.slice ao xs.length c) := hL1.cell 5
      clear hm hS hN hl hb0 hL hS0 hN0 hl0 hU0 hO1 hO1' c0 c1 c2 c3 c4 c6 hr1
      go_wp2_with fail
      go_loopw [15] (fun v wr => ∃ k : Nat, k ≤ xs.length ∧ v = .int .i64 k ∧ S wr (gwL see env op name tail 0 (xs.take k) r1) ∧ Cn wr b (nb + 4 * szL (xs.take k)) (cnt env) ∧ ButS (Wrt D b) w1 wr) (fun v _ => xs.length - (intOf v).toNat)
      case atStart => exact ⟨0, Nat.zero_le _, rfl, by rw [List.take_zero, gwL_nil]; exact hS1, by rw [List.take_zero, szL_nil]; exact hN1, .refl _ _⟩
      case round =>
        obtain ⟨k, hkn, rfl, hSk, hNk, hUk⟩ := hrel
        by_cases hlt : k < xs.length
        · have hLk := hUk.bk hL1 (fun h => by have := HLW.out _ h; omega)
          have hlk := hUk.el hl1 HA.out
          have hsz := szE_at xs k hlt
          have hst := szL_take xs k hlt
          have hsT : szL (xs.take (k + 1)) ≤ szL xs := szL_le xs (k + 1)
          have hwk : lnE (xs.getD k ed) := wfL_at xs hw.2 k hlt
          obtain ⟨g, off, rfl⟩ := hlk.place (by intro e; simp [e] at hlt)
          obtain ⟨vs, hv, hxv⟩ := hlk.at k hlt
          obtain ⟨u0, u1, u2, u3, u4, u5, u6, rfl⟩ := list7 hxv.len
          obtain ⟨d0, d1, d2, d3, d4, d5, d6⟩ := range7 hv
          have hZ := Bk.new wr 43 #[.int .i64 0, .string ⟨#[]⟩, .string ⟨#[]⟩, .int .i64 0, .complex .f64 0 0, .slice none 0 0, .int .i64 0]
          have HS : Hid (gwL see env op name tail 0 (xs.take (k + 1)) r1 = gwE see (bnd6 op name tail k ++ env) (xs.getD k ed) (gwL see env op name tail 0 (xs.take k) r1)) := by
            have := gwL_step see env op name tail xs 0 k r1 hlt
            rwa [Nat.zero_add] at this
          obtain ⟨rk, hrk⟩ : ∃ rk, rk = gwL see env op name tail 0 (xs.take k) r1 := ⟨_, rfl⟩
          have hmk : μ rk ≤ μ r1 + szL (xs.take k) := by rw [hrk]; exact gw_muL see HMH.out.step _ _ _ _ _ _ _
          rw [← hrk] at hSk HS
          have hwr : w.heap.size < wr.heap.size := hLk.lt
          clear hv hrk
          go_upto_region 5 with (refine wpList_storeN rfl 43 (.tmp 7) (.tmp 19) rfl wr.heap.size 0 [u0, u1, u2, u3, u4, u5, u6] rfl rfl hZ (Nat.le_refl 7) Tryz.infoE hxv.one ?_; intro w3 hB3 hO3)
          have hB3' : Bk w3 wr.heap.size 43 [u0, u1, u2, u3, u4, u5, u6] := hB3
          have hb3 : Below wr.heap.size wr w3 := (below_alloc wr _).trans (hO3.below (Nat.le_refl _))
          have hU3 : ButS (Wrt D b) wr w3 := .below hb3
          have hS3 := HMH.out.up hSk hb3
          have hN3 := hNk.up hb3
          have hL3 := hLk.up hb3
          have hx3 := hxv.up hb3
          clear hZ hB3 hO3 d0 d1 d2 d3 d4 d5 d6 hSk hNk hLk hlk hxv
          obtain ⟨c0, c1, c2, c3, c4, c5', c6⟩ := Bk.seven (show Bk w3 w.heap.size 43 [_, _, _, _, _, _, _] from hL3)
          have hbn := boundIn6_any (w := w3) op name tail (.int .i64 ty) (.complex .f64 (fl p) (fl q)) (.slice (some ⟨g, off, none⟩) xs.length c) (.int .i64 i) k
          obtain ⟨B, hBd⟩ : ∃ B, B = bnd6 op name tail k := ⟨_, rfl⟩
          have hB2 := bnd6_len op name tail k
          have hBm := bnd6_mem (op := op) (i := k) hnl htl
          rw [← hBd] at hbn HS hB2 hBm
          clear hBd
          go_wp2_with fail
          refine hbn.mono ?_
          rintro e w4 ⟨ao4, rfl, hs4, hge, hb4⟩
          have hU4 : ButS (Wrt D b) w3 w4 := .below hb4
          have hS4 := HMH.out.up hS3 hb4
          have hN4 := hN3.up hb4
          have hL4 := hL3.up hb4
          have hV4 := hB3'.up hb4
          have hx4 := hx3.up hb4
          have hw3 : wr.heap.size < w3.heap.size := hB3'.lt
          have hge4 : ∀ g' off', ao4 = some ⟨g', off', none⟩ → ¬ Wrt D b g' := fun g' off' h e => by have := hge g' off' h; have := HLW.out _ e; omega
          clear hbn c0 c1 c2 c3 c4 c5' c6 hS3 hN3 hL3 hB3' hx3
          have ha := add6_any hN4 1 ao4 B.length B hs4 (fun g' off' h e => hge4 g' off' h (.inr e)) (fun s h => by have := hBm s h; unfold maxLen; omega) (by omega) (by omega) (fun s j => cnt env s + (B.take j).count s) (fun s => by simp) (fun s j hj => by rw [count_take B s j hj]; split <;> omega)
            (fun s j => by have := count_le B s j; have := List.count_le_length (a := s) (l := B); have := List.count_le_length (a := s) (l := env); show env.count s + _ ≤ _; omega)
          go_wp2_with fail
          refine ha.mono ?_
          rintro e w5 ⟨rfl, hN5, hO5⟩
          have hU5 : ButS (Wrt D b) w4 w5 := hO5.mono fun k h => .inr h
          have hS5 := HMH.out.keep _ _ _ hS4 hO5
          have hL5 := hU5.bk hL4 (fun h => by have := HLW.out _ h; omega)
          have hV5 := hU5.bk hV4 (fun h => by have := HLW.out _ h; omega)
          have hx5 := hU5.ex hx4 HA.out
          have hs5 := hs4.but hU5 hge4
          have hN5' : Cn w5 b (nb + 4 * szL (xs.take k) + B.length) (cnt (B ++ env)) := hN5.congr fun s => by show (B ++ env).count s = env.count s + (B.take B.length).count s; rw [List.count_append, List.take_length]; omega
          clear ha hN5 hO5 hS4 hN4 hL4 hV4 hx4 hs4
          obtain ⟨v0, v1, v2, v3, v4, v5, v6⟩ := Bk.seven (show Bk w5 wr.heap.size 43 [_, _, _, _, _, _, _] from hV5)
          have hrec := IH.out (xs.getD k ed) (by omega) (by omega) hwk w5 A [u0, u1, u2, u3, u4, u5, u6] (B ++ env) (nb + 4 * szL (xs.take k) + B.length) rk hx5 HA.out hS5 (by omega) hN5' (by omega) (by rw [List.length_append]; omega)
          go_wp2_with fail
          refine hrec.mono ?_
          rintro e w6 ⟨rfl, hS6, hN6, hU6⟩
          have hs6 := hs5.but hU6 hge4
          rw [← HS.out] at hS6
          have hszp := szE_pos (xs.getD k ed)
          clear hrec v0 v1 v2 v3 v4 v5 v6 hN5' hS5 hL5 hV5 hx5 hs5
          have ha := add6_any hN6 (-1) ao4 B.length B hs6 (fun g' off' h e => hge4 g' off' h (.inr e)) (fun s h => by have := hBm s h; unfold maxLen; omega) (by omega) (by omega) (fun s j => cnt (B ++ env) s - (B.take j).count s) (fun s => by simp)
            (fun s j hj => by have h1 := count_take B s j hj; have h2 := count_le B s (j + 1); have h3 : cnt (B ++ env) s = B.count s + env.count s := List.count_append; rw [h3]; split <;> rename_i h4 <;> simp only [h4, if_true, if_false] at h1 <;> omega)
            (fun s j => by have := List.count_le_length (a := s) (l := B ++ env); rw [List.length_append] at this; show (B ++ env).count s - _ ≤ _; omega)
          go_wp2_with fail
          refine ha.mono ?_
          rintro e w7 ⟨rfl, hN7, hO7⟩
          have hS7 := HMH.out.keep _ _ _ hS6 hO7
          have hU7 : ButS (Wrt D b) w6 w7 := hO7.mono fun k h => .inr h
          have hUe := (((hUk.trans hU3).trans hU4).trans hU5).trans (hU6.trans hU7)
          have hN7' : Cn w7 b (nb + 4 * szL (xs.take (k + 1))) (cnt env) := (hN7.mono (by omega)).congr fun s => by
            show env.count s = (B ++ env).count s - (B.take B.length).count s
            rw [List.count_append, List.take_length]
            omega
          clear ha
          go_wp2_with fail
          go_roundw
          case rel => exact ⟨k + 1, by omega, by go_num, hS7, hN7', hUe⟩
          case measure => simp [intOf]; omega
        · have hke : k = xs.length := by omega
          subst hke
          rw [List.take_length] at hSk hNk
          have hU2 := hU1.trans hUk
          go_wp2_with fail
          go_end0
          refine ⟨rfl, by rw [HE.out]; exact hSk, by rw [szE_mk]; exact hNk.mono (by omega), hU2⟩
end Go.Proofs.YtaneibojiamjeaaGreatDoor
/-
  What is done at each free variable of an expression: by a state that the closure keeps.
-/
namespace Go.Proofs.YtaneibojiamjeaaGreatDoor
open Go.RowKit Go.Maps
set_option maxRecDepth 100000

/-- At each expression: a free variable is told. -/
def seeF {σ : Type} (upd : List UInt8 → σ → σ) (cn : List UInt8 → Nat) (op : Int) (name : List UInt8) (s : σ) : σ := if op = 6 ∧ cn name = 0 then upd name s else s

/-- What a closure of 1 captured values does of a variable, over a state that lies in the blocks D. -/
structure Tells1 {σ : Type} (h : Nat) (c1 : Value) (D : Nat → Prop) (S : World → σ → Prop) (upd : List UInt8 → σ → σ) (μ : σ → Nat) (M : Nat) : Prop where
  tell : ∀ (w : World) (s : σ) (op : Int) (name : List UInt8) (v2 v3 v4 v5 v6 : Value), S w s → μ s < M → name.length ≤ maxLen →
    Calls Tryz.prog h #[.agg #[.int .i64 op, .string (bs name), v2, v3, v4, v5, v6], c1] w fun e w' => e = .returned (.tuple #[]) ∧ S w' (upd name s) ∧ ButS D w w'
  keep : ∀ (w w' : World) (s : σ) (T : Nat → Prop), S w s → ButS T w w' → (∀ k, D k → ¬ T k) → S w' s
  low : ∀ (w : World) (s : σ), S w s → ∀ k, D k → k < w.heap.size
  step : ∀ name s, μ (upd name s) ≤ μ s + 1
  enter : ∀ (args : Array Value) (w : World), (callFunc h args).run Tryz.prog w = .ok (.enter h args) w
/-- The state, with the two boxes that eachFree's closure looks into. -/
def Sf1 {σ : Type} (h : Nat) (c1 : Value) (b ba bp : Nat) (S : World → σ → Prop) (w : World) (s : σ) : Prop := Bk w ba 98 [.map (some b)] ∧ Bk w bp 76 [.func (.func h) #[] #[c1]] ∧ S w s

set_option maxHeartbeats 4000000 in
theorem meetF1_any {σ : Type} {h : Nat} {c1 : Value} {D : Nat → Prop} {S : World → σ → Prop} {upd : List UInt8 → σ → σ} {μ : σ → Nat} {M : Nat} (HT : Tells1 h c1 D S upd μ M) {b ba bp : Nat} (h1 : ¬ D b) (h2 : ¬ D ba) (h3 : ¬ D bp) (w : World) (env : List (List UInt8)) (nb : Nat) (s : σ) (op : Int) (name : List UInt8) (v2 v3 v4 : Value) (ao : Option Addr) (n c : Nat) (at_ : Int) (hS : Sf1 h c1 b ba bp S w s) (hmu : μ s < M) (hN : Cn w b nb (cnt env)) (hl : name.length ≤ maxLen) :
    Calls Tryz.prog 61 #[.agg #[.int .i64 op, .string (bs name), v2, v3, v4, .slice ao n c, .int .i64 at_], .pointer (some ⟨ba, 0, none⟩), .pointer (some ⟨bp, 0, none⟩)] w fun e w' => e = .returned (.tuple #[]) ∧ Sf1 h c1 b ba bp S w' (seeF upd (cnt env) op name s) ∧ ButS D w w' := by
  have HTH : Hid (Tells1 h c1 D S upd μ M) := HT
  have HD : Hid (¬ D b ∧ ¬ D ba ∧ ¬ D bp) := ⟨h1, h2, h3⟩
  clear HT h1 h2 h3
  obtain ⟨hA, hP, hS⟩ := hS
  have hb0 := below_alloc w (.cells #[.int .i64 op, .string (bs name), v2, v3, v4, .slice ao n c, .int .i64 at_] 43)
  have hL := Bk.new w 43 #[.int .i64 op, .string (bs name), v2, v3, v4, .slice ao n c, .int .i64 at_]
  have hA0 := hA.up hb0
  have hP0 := hP.up hb0
  have hN0 := hN.up hb0
  have hS0 := HTH.out.keep _ _ _ (fun _ => False) hS (.below hb0) (fun _ _ h => h)
  go_enter Tryz.func61, Tryz.ntmps61
  go_upto_region 1 with fail
  generalize w.alloc (.cells #[.int .i64 op, .string (bs name), v2, v3, v4, .slice ao n c, .int .i64 at_] 43) = W at *
  obtain ⟨d0, d1, d2, d3, d4, d5, d6⟩ := Bk.seven (show Bk W w.heap.size 43 [_, _, _, _, _, _, _] from hL)
  have a0 : W.cell? ⟨ba, 0, none⟩ = some (.map (some b)) := hA0.cell 0
  have hm := leavesFree_any hN0 op name hl v2 v3 v4 (.slice ao n c) (.int .i64 at_)
  go_wp2_with fail
  refine hm.mono ?_
  rintro e w1 ⟨rfl, hb1⟩
  have hB1 := Below.thn hb0 hb1
  have hA1 := hA0.up hb1
  have hP1 := hP0.up hb1
  have hL1 := hL.up hb1
  have hS1 := HTH.out.keep _ _ _ (fun _ => False) hS0 (.below hb1) (fun _ _ h => h)
  clear hm d0 d1 d2 d3 d4 d5 d6 a0 hA hP hS hN hb0 hL hA0 hP0 hN0 hS0 hb1
  by_cases hf : op = 6 ∧ cnt env name = 0
  · rw [decide_eq_true hf]
    have HE : Hid (seeF upd (cnt env) op name s = upd name s) := if_pos hf
    obtain ⟨d0, d1, d2, d3, d4, d5, d6⟩ := Bk.seven (show Bk w1 w.heap.size 43 [_, _, _, _, _, _, _] from hL1)
    have p0 : w1.cell? ⟨bp, 0, none⟩ = some (.func (.func h) #[] #[c1]) := hP1.cell 0
    have ht := HTH.out.tell w1 s op name v2 v3 v4 (.slice ao n c) (.int .i64 at_) hS1 hmu hl
    clear hf
    go_wp2_with fail
    rw [HTH.out.enter, Oper.upon_enter]
    refine ht.mono ?_
    rintro e w2 ⟨rfl, hS2, hU2⟩
    dsimp only
    have hU := (ButS.below (S := D) hB1).trans hU2
    have HX : Hid (Sf1 h c1 b ba bp S w2 (seeF upd (cnt env) op name s) ∧ ButS D w w2) := by
      refine ⟨⟨hU2.bk hA1 HD.out.2.1, hU2.bk hP1 HD.out.2.2, ?_⟩, hU⟩
      rw [HE.out]
      exact hS2
    clear ht d0 d1 d2 d3 d4 d5 d6 p0 hS2 hU2 hU
    go_wp2_with fail
    go_end0
    exact ⟨rfl, HX.out⟩
  · rw [decide_eq_false hf]
    have HX : Hid (Sf1 h c1 b ba bp S w1 (seeF upd (cnt env) op name s) ∧ ButS D w w1) := by
      refine ⟨⟨hA1, hP1, ?_⟩, .below hB1⟩
      unfold seeF
      rw [if_neg hf]
      exact hS1
    clear hf
    go_wp2_with fail
    go_end0
    exact ⟨rfl, HX.out⟩
theorem meetsF1 {σ : Type} {h : Nat} {c1 : Value} {D : Nat → Prop} {S : World → σ → Prop} {upd : List UInt8 → σ → σ} {μ : σ → Nat} {M : Nat} (HT : Tells1 h c1 D S upd μ M) {b ba bp : Nat} (h1 : ¬ D b) (h2 : ¬ D ba) (h3 : ¬ D bp) (h4 : ba ≠ b) (h5 : bp ≠ b) :
    Meets 61 (.pointer (some ⟨ba, 0, none⟩)) (.pointer (some ⟨bp, 0, none⟩)) b D (Sf1 h c1 b ba bp S) (seeF upd) μ M where
  meet := fun w env nb s op name v2 v3 v4 ao n c at_ hS hmu hN hl => meetF1_any HT h1 h2 h3 w env nb s op name v2 v3 v4 ao n c at_ hS hmu hN hl
  keep := fun w w' s hS hu => ⟨hu.bk hS.1 h4, hu.bk hS.2.1 h5, HT.keep w w' s _ hS.2.2 hu fun k hk e => h1 (e ▸ hk)⟩
  low := fun w s hS => HT.low w s hS.2.2
  ne := h1
  step := fun cn op name s => by
    unfold seeF
    split
    · exact HT.step name s
    · omega
  enter := fun args w => by kernel_rfl

set_option maxHeartbeats 4000000 in
theorem eachFree1_any {σ : Type} {h : Nat} {c1 : Value} {D : Nat → Prop} {S : World → σ → Prop} {upd : List UInt8 → σ → σ} {μ : σ → Nat} {M : Nat} (HT : Tells1 h c1 D S upd μ M) {x : Ex} (hsz : szE x ≤ 262144) (hw : lnE x) (w : World) (A : Nat → Prop) (us : List Value) (s : σ) (hx : ExW w A x us) (hA : ∀ k, A k → k < w.heap.size ∧ ¬ D k) (hS : S w s) (hmu : μ s + szE x ≤ M) :
    Calls Tryz.prog 43 #[.agg us.toArray, .func (.func h) #[] #[c1]] w fun e w' => e = .returned (.tuple #[]) ∧ S w' (gwE (seeF upd) [] x s) ∧ ButS D w w' := by
  have HTH : Hid (Tells1 h c1 D S upd μ M) := HT
  have HA : Hid (∀ k, A k → k < w.heap.size ∧ ¬ D k) := hA
  have HLW : Hid (∀ k, D k → k < w.heap.size) := HT.low w s hS
  clear HT hA
  have hmm := @run_makeMap Tryz.prog
  obtain ⟨u0, u1, u2, u3, u4, u5, u6, rfl⟩ := list7 hx.len
  have hb0 := below_two w (.cells #[u0, u1, u2, u3, u4, u5, u6] 43) (.cells #[.func (.func h) #[] #[c1]] 76)
  have hE0 := (Bk.new w 43 #[u0, u1, u2, u3, u4, u5, u6]).up (below_alloc _ (.cells #[.func (.func h) #[] #[c1]] 76))
  have hP0 := Bk.newAt (w := w.alloc (.cells #[u0, u1, u2, u3, u4, u5, u6] 43)) (n := w.heap.size + 1) 76 #[.func (.func h) #[] #[c1]] (by simp)
  go_enter Tryz.func43, Tryz.ntmps43
  go_upto_region 1 with fail
  obtain ⟨W, hW⟩ : ∃ W, W = (w.alloc (.cells #[u0, u1, u2, u3, u4, u5, u6] 43)).alloc (.cells #[.func (.func h) #[] #[c1]] 76) := ⟨_, rfl⟩
  rw [← hW] at hb0 hE0 hP0 ⊢
  clear hW
  have hWs : w.heap.size + 1 < W.heap.size := hP0.lt
  have hN1 := Cn.made W
  have hb1 := below_alloc W (.map #[] 0)
  have hsz1 : (W.alloc (.map #[] 0)).heap.size = W.heap.size + 1 := by simp
  have hb2 := below_alloc (W.alloc (.map #[] 0)) (.cells #[.map (some W.heap.size)] 98)
  have hA2 := Bk.new (W.alloc (.map #[] 0)) 98 #[.map (some W.heap.size)]
  go_upto_region 2 with fail
  have hbX := (hb0.trans (hb1.mono (by omega))).trans (hb2.mono (by omega))
  have hNX := (hN1.up hb2).congr (d := cnt []) fun s => by simp [cnt]
  have hEX := (hE0.up hb1).up hb2
  have hPX := (hP0.up hb1).up hb2
  have hSX := HTH.out.keep _ _ _ (fun _ => False) hS (.below hbX) (fun _ _ h => h)
  have hxX := hx.up hbX
  obtain ⟨X, hX⟩ : ∃ X, X = (W.alloc (.map #[] 0)).alloc (.cells #[.map (some W.heap.size)] 98) := ⟨_, rfl⟩
  rw [← hX] at hbX hNX hEX hPX hSX hxX hA2 ⊢
  obtain ⟨b, hb⟩ : ∃ b, b = W.heap.size := ⟨_, rfl⟩
  obtain ⟨ba, hba⟩ : ∃ ba, ba = W.heap.size + 1 := ⟨_, rfl⟩
  obtain ⟨bp, hbp⟩ : ∃ bp, bp = w.heap.size + 1 := ⟨_, rfl⟩
  rw [hsz1, ← hba, ← hb] at hA2
  rw [← hb] at hNX
  rw [← hbp] at hPX
  rw [← hba, ← hb, ← hbp]
  have hbs : w.heap.size < bp ∧ bp < b ∧ b < ba := by omega
  have hbX2 : b < X.heap.size := hNX.lt
  clear hX hb hba hbp hb0 hb1 hb2 hsz1 hE0 hP0 hN1 hWs hS hx
  have hM := meetsF1 HTH.out (b := b) (ba := ba) (bp := bp) (fun h => by have := HLW.out _ h; omega) (fun h => by have := HLW.out _ h; omega) (fun h => by have := HLW.out _ h; omega) (by omega) (by omega)
  have hm := walkG_any hM 262144 x hsz (by omega) hw X A [u0, u1, u2, u3, u4, u5, u6] [] 0 s hxX (fun k hk h => by have := HA.out k hk; rcases h with h | h <;> first | exact this.2 h | omega) ⟨hA2, hPX, hSX⟩ hmu hNX (by omega) (by simp only [List.length_nil]; omega)
  obtain ⟨d0, d1, d2, d3, d4, d5, d6⟩ := Bk.seven (show Bk X w.heap.size 43 [_, _, _, _, _, _, _] from hEX)
  have a0 : X.cell? ⟨ba, 0, none⟩ = some (.map (some b)) := hA2.cell 0
  clear hM hmm
  go_wp2_with fail
  refine hm.mono ?_
  rintro e w3 ⟨rfl, hS3, _, hU3⟩
  have HX : Hid (S w3 (gwE (seeF upd) [] x s) ∧ ButS D w w3) := by
    refine ⟨hS3.2.2, ⟨hU3.os.trans hbX.os, hU3.tape.trans hbX.tape, hU3.output.trans hbX.output, Nat.le_trans hbX.size hU3.size, fun k hk hn => ?_⟩⟩
    refine (hU3.block k (by have := hbX.size; omega) fun h => ?_).trans (hbX.block k hk)
    rcases h with h | h
    · exact hn h
    · omega
  clear hm hS3 hU3 d0 d1 d2 d3 d4 d5 d6 a0
  go_wp2_with fail
  go_end0
  exact ⟨rfl, HX.out⟩

/-- What a closure of 2 captured values does of a variable, over a state that lies in the blocks D. -/
structure Tells2 {σ : Type} (h : Nat) (c1 c2 : Value) (D : Nat → Prop) (S : World → σ → Prop) (upd : List UInt8 → σ → σ) (μ : σ → Nat) (M : Nat) : Prop where
  tell : ∀ (w : World) (s : σ) (op : Int) (name : List UInt8) (v2 v3 v4 v5 v6 : Value), S w s → μ s < M → name.length ≤ maxLen →
    Calls Tryz.prog h #[.agg #[.int .i64 op, .string (bs name), v2, v3, v4, v5, v6], c1, c2] w fun e w' => e = .returned (.tuple #[]) ∧ S w' (upd name s) ∧ ButS D w w'
  keep : ∀ (w w' : World) (s : σ) (T : Nat → Prop), S w s → ButS T w w' → (∀ k, D k → ¬ T k) → S w' s
  low : ∀ (w : World) (s : σ), S w s → ∀ k, D k → k < w.heap.size
  step : ∀ name s, μ (upd name s) ≤ μ s + 1
  enter : ∀ (args : Array Value) (w : World), (callFunc h args).run Tryz.prog w = .ok (.enter h args) w
/-- The state, with the two boxes that eachFree's closure looks into. -/
def Sf2 {σ : Type} (h : Nat) (c1 c2 : Value) (b ba bp : Nat) (S : World → σ → Prop) (w : World) (s : σ) : Prop := Bk w ba 98 [.map (some b)] ∧ Bk w bp 76 [.func (.func h) #[] #[c1, c2]] ∧ S w s

set_option maxHeartbeats 4000000 in
theorem meetF2_any {σ : Type} {h : Nat} {c1 c2 : Value} {D : Nat → Prop} {S : World → σ → Prop} {upd : List UInt8 → σ → σ} {μ : σ → Nat} {M : Nat} (HT : Tells2 h c1 c2 D S upd μ M) {b ba bp : Nat} (h1 : ¬ D b) (h2 : ¬ D ba) (h3 : ¬ D bp) (w : World) (env : List (List UInt8)) (nb : Nat) (s : σ) (op : Int) (name : List UInt8) (v2 v3 v4 : Value) (ao : Option Addr) (n c : Nat) (at_ : Int) (hS : Sf2 h c1 c2 b ba bp S w s) (hmu : μ s < M) (hN : Cn w b nb (cnt env)) (hl : name.length ≤ maxLen) :
    Calls Tryz.prog 61 #[.agg #[.int .i64 op, .string (bs name), v2, v3, v4, .slice ao n c, .int .i64 at_], .pointer (some ⟨ba, 0, none⟩), .pointer (some ⟨bp, 0, none⟩)] w fun e w' => e = .returned (.tuple #[]) ∧ Sf2 h c1 c2 b ba bp S w' (seeF upd (cnt env) op name s) ∧ ButS D w w' := by
  have HTH : Hid (Tells2 h c1 c2 D S upd μ M) := HT
  have HD : Hid (¬ D b ∧ ¬ D ba ∧ ¬ D bp) := ⟨h1, h2, h3⟩
  clear HT h1 h2 h3
  obtain ⟨hA, hP, hS⟩ := hS
  have hb0 := below_alloc w (.cells #[.int .i64 op, .string (bs name), v2, v3, v4, .slice ao n c, .int .i64 at_] 43)
  have hL := Bk.new w 43 #[.int .i64 op, .string (bs name), v2, v3, v4, .slice ao n c, .int .i64 at_]
  have hA0 := hA.up hb0
  have hP0 := hP.up hb0
  have hN0 := hN.up hb0
  have hS0 := HTH.out.keep _ _ _ (fun _ => False) hS (.below hb0) (fun _ _ h => h)
  go_enter Tryz.func61, Tryz.ntmps61
  go_upto_region 1 with fail
  generalize w.alloc (.cells #[.int .i64 op, .string (bs name), v2, v3, v4, .slice ao n c, .int .i64 at_] 43) = W at *
  obtain ⟨d0, d1, d2, d3, d4, d5, d6⟩ := Bk.seven (show Bk W w.heap.size 43 [_, _, _, _, _, _, _] from hL)
  have a0 : W.cell? ⟨ba, 0, none⟩ = some (.map (some b)) := hA0.cell 0
  have hm := leavesFree_any hN0 op name hl v2 v3 v4 (.slice ao n c) (.int .i64 at_)
  go_wp2_with fail
  refine hm.mono ?_
  rintro e w1 ⟨rfl, hb1⟩
  have hB1 := Below.thn hb0 hb1
  have hA1 := hA0.up hb1
  have hP1 := hP0.up hb1
  have hL1 := hL.up hb1
  have hS1 := HTH.out.keep _ _ _ (fun _ => False) hS0 (.below hb1) (fun _ _ h => h)
  clear hm d0 d1 d2 d3 d4 d5 d6 a0 hA hP hS hN hb0 hL hA0 hP0 hN0 hS0 hb1
  by_cases hf : op = 6 ∧ cnt env name = 0
  · rw [decide_eq_true hf]
    have HE : Hid (seeF upd (cnt env) op name s = upd name s) := if_pos hf
    obtain ⟨d0, d1, d2, d3, d4, d5, d6⟩ := Bk.seven (show Bk w1 w.heap.size 43 [_, _, _, _, _, _, _] from hL1)
    have p0 : w1.cell? ⟨bp, 0, none⟩ = some (.func (.func h) #[] #[c1, c2]) := hP1.cell 0
    have ht := HTH.out.tell w1 s op name v2 v3 v4 (.slice ao n c) (.int .i64 at_) hS1 hmu hl
    clear hf
    go_wp2_with fail
    rw [HTH.out.enter, Oper.upon_enter]
    refine ht.mono ?_
    rintro e w2 ⟨rfl, hS2, hU2⟩
    dsimp only
    have hU := (ButS.below (S := D) hB1).trans hU2
    have HX : Hid (Sf2 h c1 c2 b ba bp S w2 (seeF upd (cnt env) op name s) ∧ ButS D w w2) := by
      refine ⟨⟨hU2.bk hA1 HD.out.2.1, hU2.bk hP1 HD.out.2.2, ?_⟩, hU⟩
      rw [HE.out]
      exact hS2
    clear ht d0 d1 d2 d3 d4 d5 d6 p0 hS2 hU2 hU
    go_wp2_with fail
    go_end0
    exact ⟨rfl, HX.out⟩
  · rw [decide_eq_false hf]
    have HX : Hid (Sf2 h c1 c2 b ba bp S w1 (seeF upd (cnt env) op name s) ∧ ButS D w w1) := by
      refine ⟨⟨hA1, hP1, ?_⟩, .below hB1⟩
      unfold seeF
      rw [if_neg hf]
      exact hS1
    clear hf
    go_wp2_with fail
    go_end0
    exact ⟨rfl, HX.out⟩
theorem meetsF2 {σ : Type} {h : Nat} {c1 c2 : Value} {D : Nat → Prop} {S : World → σ → Prop} {upd : List UInt8 → σ → σ} {μ : σ → Nat} {M : Nat} (HT : Tells2 h c1 c2 D S upd μ M) {b ba bp : Nat} (h1 : ¬ D b) (h2 : ¬ D ba) (h3 : ¬ D bp) (h4 : ba ≠ b) (h5 : bp ≠ b) :
    Meets 61 (.pointer (some ⟨ba, 0, none⟩)) (.pointer (some ⟨bp, 0, none⟩)) b D (Sf2 h c1 c2 b ba bp S) (seeF upd) μ M where
  meet := fun w env nb s op name v2 v3 v4 ao n c at_ hS hmu hN hl => meetF2_any HT h1 h2 h3 w env nb s op name v2 v3 v4 ao n c at_ hS hmu hN hl
  keep := fun w w' s hS hu => ⟨hu.bk hS.1 h4, hu.bk hS.2.1 h5, HT.keep w w' s _ hS.2.2 hu fun k hk e => h1 (e ▸ hk)⟩
  low := fun w s hS => HT.low w s hS.2.2
  ne := h1
  step := fun cn op name s => by
    unfold seeF
    split
    · exact HT.step name s
    · omega
  enter := fun args w => by kernel_rfl

set_option maxHeartbeats 4000000 in
theorem eachFree2_any {σ : Type} {h : Nat} {c1 c2 : Value} {D : Nat → Prop} {S : World → σ → Prop} {upd : List UInt8 → σ → σ} {μ : σ → Nat} {M : Nat} (HT : Tells2 h c1 c2 D S upd μ M) {x : Ex} (hsz : szE x ≤ 262144) (hw : lnE x) (w : World) (A : Nat → Prop) (us : List Value) (s : σ) (hx : ExW w A x us) (hA : ∀ k, A k → k < w.heap.size ∧ ¬ D k) (hS : S w s) (hmu : μ s + szE x ≤ M) :
    Calls Tryz.prog 43 #[.agg us.toArray, .func (.func h) #[] #[c1, c2]] w fun e w' => e = .returned (.tuple #[]) ∧ S w' (gwE (seeF upd) [] x s) ∧ ButS D w w' := by
  have HTH : Hid (Tells2 h c1 c2 D S upd μ M) := HT
  have HA : Hid (∀ k, A k → k < w.heap.size ∧ ¬ D k) := hA
  have HLW : Hid (∀ k, D k → k < w.heap.size) := HT.low w s hS
  clear HT hA
  have hmm := @run_makeMap Tryz.prog
  obtain ⟨u0, u1, u2, u3, u4, u5, u6, rfl⟩ := list7 hx.len
  have hb0 := below_two w (.cells #[u0, u1, u2, u3, u4, u5, u6] 43) (.cells #[.func (.func h) #[] #[c1, c2]] 76)
  have hE0 := (Bk.new w 43 #[u0, u1, u2, u3, u4, u5, u6]).up (below_alloc _ (.cells #[.func (.func h) #[] #[c1, c2]] 76))
  have hP0 := Bk.newAt (w := w.alloc (.cells #[u0, u1, u2, u3, u4, u5, u6] 43)) (n := w.heap.size + 1) 76 #[.func (.func h) #[] #[c1, c2]] (by simp)
  go_enter Tryz.func43, Tryz.ntmps43
  go_upto_region 1 with fail
  obtain ⟨W, hW⟩ : ∃ W, W = (w.alloc (.cells #[u0, u1, u2, u3, u4, u5, u6] 43)).alloc (.cells #[.func (.func h) #[] #[c1, c2]] 76) := ⟨_, rfl⟩
  rw [← hW] at hb0 hE0 hP0 ⊢
  clear hW
  have hWs : w.heap.size + 1 < W.heap.size := hP0.lt
  have hN1 := Cn.made W
  have hb1 := below_alloc W (.map #[] 0)
  have hsz1 : (W.alloc (.map #[] 0)).heap.size = W.heap.size + 1 := by simp
  have hb2 := below_alloc (W.alloc (.map #[] 0)) (.cells #[.map (some W.heap.size)] 98)
  have hA2 := Bk.new (W.alloc (.map #[] 0)) 98 #[.map (some W.heap.size)]
  go_upto_region 2 with fail
  have hbX := (hb0.trans (hb1.mono (by omega))).trans (hb2.mono (by omega))
  have hNX := (hN1.up hb2).congr (d := cnt []) fun s => by simp [cnt]
  have hEX := (hE0.up hb1).up hb2
  have hPX := (hP0.up hb1).up hb2
  have hSX := HTH.out.keep _ _ _ (fun _ => False) hS (.below hbX) (fun _ _ h => h)
  have hxX := hx.up hbX
  obtain ⟨X, hX⟩ : ∃ X, X = (W.alloc (.map #[] 0)).alloc (.cells #[.map (some W.heap.size)] 98) := ⟨_, rfl⟩
  rw [← hX] at hbX hNX hEX hPX hSX hxX hA2 ⊢
  obtain ⟨b, hb⟩ : ∃ b, b = W.heap.size := ⟨_, rfl⟩
  obtain ⟨ba, hba⟩ : ∃ ba, ba = W.heap.size + 1 := ⟨_, rfl⟩
  obtain ⟨bp, hbp⟩ : ∃ bp, bp = w.heap.size + 1 := ⟨_, rfl⟩
  rw [hsz1, ← hba, ← hb] at hA2
  rw [← hb] at hNX
  rw [← hbp] at hPX
  rw [← hba, ← hb, ← hbp]
  have hbs : w.heap.size < bp ∧ bp < b ∧ b < ba := by omega
  have hbX2 : b < X.heap.size := hNX.lt
  clear hX hb hba hbp hb0 hb1 hb2 hsz1 hE0 hP0 hN1 hWs hS hx
  have hM := meetsF2 HTH.out (b := b) (ba := ba) (bp := bp) (fun h => by have := HLW.out _ h; omega) (fun h => by have := HLW.out _ h; omega) (fun h => by have := HLW.out _ h; omega) (by omega) (by omega)
  have hm := walkG_any hM 262144 x hsz (by omega) hw X A [u0, u1, u2, u3, u4, u5, u6] [] 0 s hxX (fun k hk h => by have := HA.out k hk; rcases h with h | h <;> first | exact this.2 h | omega) ⟨hA2, hPX, hSX⟩ hmu hNX (by omega) (by simp only [List.length_nil]; omega)
  obtain ⟨d0, d1, d2, d3, d4, d5, d6⟩ := Bk.seven (show Bk X w.heap.size 43 [_, _, _, _, _, _, _] from hEX)
  have a0 : X.cell? ⟨ba, 0, none⟩ = some (.map (some b)) := hA2.cell 0
  clear hM hmm
  go_wp2_with fail
  refine hm.mono ?_
  rintro e w3 ⟨rfl, hS3, _, hU3⟩
  have HX : Hid (S w3 (gwE (seeF upd) [] x s) ∧ ButS D w w3) := by
    refine ⟨hS3.2.2, ⟨hU3.os.trans hbX.os, hU3.tape.trans hbX.tape, hU3.output.trans hbX.output, Nat.le_trans hbX.size hU3.size, fun k hk hn => ?_⟩⟩
    refine (hU3.block k (by have := hbX.size; omega) fun h => ?_).trans (hbX.block k hk)
    rcases h with h | h
    · exact hn h
    · omega
  clear hm hS3 hU3 d0 d1 d2 d3 d4 d5 d6 a0
  go_wp2_with fail
  go_end0
  exact ⟨rfl, HX.out⟩
end Go.Proofs.YtaneibojiamjeaaGreatDoor
/-
  Uses; a set of names; what Free's closure does.
-/
namespace Go.Proofs.YtaneibojiamjeaaGreatDoor
open Go.RowKit Go.Maps
set_option maxRecDepth 100000

/-! ## Uses -/
/-- The name that is looked for, and the count. -/
def Su (bn bc : Nat) (nm : List UInt8) (w : World) (s : Nat) : Prop := Bk w bn 9 [.string (bs nm)] ∧ Bk w bc 3 [.int .i64 (s : Int)]
def updU (nm : List UInt8) (name : List UInt8) (s : Nat) : Nat := if name = nm then s + 1 else s
set_option maxHeartbeats 4000000 in
theorem tellU_any {bn bc : Nat} (hne : bn ≠ bc) (nm : List UInt8) (w : World) (s : Nat) (op : Int) (name : List UInt8) (v2 v3 v4 v5 v6 : Value) (hS : Su bn bc nm w s) (hmu : s < 1099511627776) :
    Calls Tryz.prog 45 #[.agg #[.int .i64 op, .string (bs name), v2, v3, v4, v5, v6], .pointer (some ⟨bn, 0, none⟩), .pointer (some ⟨bc, 0, none⟩)] w fun e w' => e = .returned (.tuple #[]) ∧ Su bn bc nm w' (updU nm name s) ∧ ButS (fun k => k = bn ∨ k = bc) w w' := by
  obtain ⟨hN, hC⟩ := hS
  have hb0 := below_alloc w (.cells #[.int .i64 op, .string (bs name), v2, v3, v4, v5, v6] 43)
  have hL := Bk.new w 43 #[.int .i64 op, .string (bs name), v2, v3, v4, v5, v6]
  have hN0 := hN.up hb0
  have hC0 := hC.up hb0
  go_enter Tryz.func45, Tryz.ntmps45
  go_upto_region 1 with fail
  generalize w.alloc (.cells #[.int .i64 op, .string (bs name), v2, v3, v4, v5, v6] 43) = W at *
  have d1 : W.cell? ⟨w.heap.size, 1, none⟩ = some (.string (bs name)) := hL.cell 1
  have n0 : W.cell? ⟨bn, 0, none⟩ = some (.string (bs nm)) := hN0.cell 0
  have c0 : W.cell? ⟨bc, 0, none⟩ = some (.int .i64 (s : Int)) := hC0.cell 0
  have f0 := hC0.frz 0
  by_cases h : name = nm
  · subst h
    have h1 : ((bs name).toList == (bs name).toList) = true := by simp
    have hC1 : Bk (W.setCell ⟨bc, 0, none⟩ (.int .i64 ((s : Int) + 1))) bc 3 [.int .i64 ((s : Int) + 1)] := Bk.set hC0 0 _
    have hO1 : Oth bc W (W.setCell ⟨bc, 0, none⟩ (.int .i64 ((s : Int) + 1))) := (Oth.refl _ _).set 0 _
    have HX : Hid (Su bn bc name (W.setCell ⟨bc, 0, none⟩ (.int .i64 ((s : Int) + 1))) (updU name name s) ∧ ButS (fun k => k = bn ∨ k = bc) w (W.setCell ⟨bc, 0, none⟩ (.int .i64 ((s : Int) + 1)))) := by
      refine ⟨⟨hN0.oth hO1 hne, ?_⟩, (ButS.below hb0).trans ((ButS.oth hO1).mono fun k h => .inr h)⟩
      have e : updU name name s = s + 1 := if_pos rfl
      rw [e]
      exact hC1
    have e1 : wrap64 ((s : Int) + 1) = (s : Int) + 1 := by simp only [wrap64]; omega
    clear hC1 hO1 hN0 hC0 hL hN hC
    go_wp2_with fail
    go_end0
    exact ⟨rfl, HX.out⟩
  · have h1 : ((bs name).toList == (bs nm).toList) = false := by rw [bs_toList, bs_toList, beq_eq_false_iff_ne]; exact h
    have HX : Hid (Su bn bc nm W (updU nm name s) ∧ ButS (fun k => k = bn ∨ k = bc) w W) := by
      refine ⟨⟨hN0, ?_⟩, .below hb0⟩
      have e : updU nm name s = s := if_neg h
      rw [e]
      exact hC0
    clear h
    go_wp2_with fail
    go_end0
    exact ⟨rfl, HX.out⟩
theorem tellsU {bn bc : Nat} (hne : bn ≠ bc) (nm : List UInt8) : Tells2 45 (.pointer (some ⟨bn, 0, none⟩)) (.pointer (some ⟨bc, 0, none⟩)) (fun k => k = bn ∨ k = bc) (Su bn bc nm) (updU nm) (fun s => s) 1099511627776 where
  tell := fun w s op name v2 v3 v4 v5 v6 hS hmu _ => tellU_any hne nm w s op name v2 v3 v4 v5 v6 hS hmu
  keep := fun w w' s T hS hu hn => ⟨hu.bk hS.1 (hn bn (.inl rfl)), hu.bk hS.2 (hn bc (.inr rfl))⟩
  low := fun w s hS k h => by rcases h with rfl | rfl; exact hS.1.lt; exact hS.2.lt
  step := fun name s => by unfold updU; split <;> omega
  enter := fun args w => by kernel_rfl
/-- How many free variables of a name there are. -/
def usE (nm : List UInt8) (x : Ex) : Nat := gwE (seeF (updU nm)) [] x 0
set_option maxHeartbeats 4000000 in
theorem uses6_any {x : Ex} (hsz : szE x ≤ 262144) (hw : lnE x) (w : World) (A : Nat → Prop) (us : List Value) (hx : ExW w A x us) (nm : List UInt8) :
    Calls Tryz.prog 22 #[.agg us.toArray, .string (bs nm)] w fun e w' => e = .returned (.int .i64 (usE nm x : Nat)) ∧ Below w.heap.size w w' := by
  obtain ⟨u0, u1, u2, u3, u4, u5, u6, rfl⟩ := list7 hx.len
  have hb0 := below_two w (.cells #[u0, u1, u2, u3, u4, u5, u6] 43) (.cells #[.string (bs nm)] 9)
  have hE0 := (Bk.new w 43 #[u0, u1, u2, u3, u4, u5, u6]).up (below_alloc _ (.cells #[.string (bs nm)] 9))
  have hN0 := Bk.newAt (w := w.alloc (.cells #[u0, u1, u2, u3, u4, u5, u6] 43)) (n := w.heap.size + 1) 9 #[.string (bs nm)] (by simp)
  go_enter Tryz.func22, Tryz.ntmps22
  go_upto_region 1 with fail
  obtain ⟨W, hW⟩ : ∃ W, W = (w.alloc (.cells #[u0, u1, u2, u3, u4, u5, u6] 43)).alloc (.cells #[.string (bs nm)] 9) := ⟨_, rfl⟩
  rw [← hW] at hb0 hE0 hN0 ⊢
  clear hW
  have hWs : w.heap.size + 1 < W.heap.size := hN0.lt
  have hb1 := below_alloc W (.cells #[.int .i64 0] 3)
  have hC1 := Bk.new W 3 #[.int .i64 0]
  go_upto_region 2 with fail
  have hbX := hb0.trans (hb1.mono (by omega))
  have hEX := hE0.up hb1
  have hNX := hN0.up hb1
  have hxX := (hx.imp (A' := fun k => k < w.heap.size) fun k _ h => h).up hbX
  obtain ⟨X, hX⟩ : ∃ X, X = W.alloc (.cells #[.int .i64 0] 3) := ⟨_, rfl⟩
  rw [← hX] at hbX hEX hNX hxX hC1 ⊢
  obtain ⟨bn, hbn⟩ : ∃ bn, bn = w.heap.size + 1 := ⟨_, rfl⟩
  obtain ⟨bc, hbc⟩ : ∃ bc, bc = W.heap.size := ⟨_, rfl⟩
  rw [← hbn] at hNX
  rw [← hbc] at hC1
  rw [← hbn, ← hbc]
  have hbs : w.heap.size < bn ∧ bn < bc := by omega
  clear hX hbn hbc hb0 hb1 hE0 hN0 hWs hx
  have hm := eachFree2_any (tellsU (by omega : bn ≠ bc) nm) hsz hw X (fun k => k < w.heap.size) [u0, u1, u2, u3, u4, u5, u6] 0 hxX (fun k hk => ⟨by have := hbX.size; omega, by omega⟩) ⟨hNX, hC1⟩ (by show 0 + szE x ≤ 1099511627776; omega)
  obtain ⟨d0, d1, d2, d3, d4, d5, d6⟩ := Bk.seven (show Bk X w.heap.size 43 [_, _, _, _, _, _, _] from hEX)
  go_wp2_with fail
  refine hm.mono ?_
  rintro e w3 ⟨rfl, hS3, hU3⟩
  have c3 : w3.cell? ⟨bc, 0, none⟩ = some (.int .i64 (usE nm x : Nat)) := hS3.2.cell 0
  have HX : Hid (Below w.heap.size w w3) := ⟨hU3.os.trans hbX.os, hU3.tape.trans hbX.tape, hU3.output.trans hbX.output, Nat.le_trans hbX.size hU3.size, fun k hk => (hU3.block k (by have := hbX.size; omega) (by omega)).trans (hbX.block k hk)⟩
  clear hm hS3 hU3 d0 d1 d2 d3 d4 d5 d6
  go_wp2_with fail
  go_ret
  exact ⟨rfl, HX.out⟩
end Go.Proofs.YtaneibojiamjeaaGreatDoor
