/-
  The walk of awake.
-/
import Derived.Test.YtbgggbkmnfppoaaGreatDoorVs
namespace Go.Proofs.YtbgggbkmnfppoaaGreatDoor
open Go.RowKit
set_option maxRecDepth 100000

def av1 : Vl := .l [(1, 0), (0, 2), (-3, 0)]
def av2 : Vl := .n (1, 0)
def av3 : Vl := .l [(2, 0), (3, 0)]
def av4 : Vl := .b true
def at1 : List UInt8 := [91, 49, 32, 50, 105, 32, 45, 51, 93]
def at2 : List UInt8 := [32, 49, 32, 32, 91, 50, 32, 51, 93, 32, 116, 114, 117, 101, 32]

theorem at1_tx : txV av1 = at1 := by kernel_rfl
theorem av1_ok : okV av1 := by
  intro z hz
  simp only [List.mem_cons, List.not_mem_nil, or_false] at hz
  rcases hz with rfl | rfl | rfl <;> exact ⟨by decide, by decide⟩
theorem av2_ok : okV av2 := ⟨by decide, by decide⟩
theorem av3_ok : okV av3 := by
  intro z hz
  simp only [List.mem_cons, List.not_mem_nil, or_false] at hz
  rcases hz with rfl | rfl <;> exact ⟨by decide, by decide⟩
theorem at1_pv : pvV rdG at1 = some av1 := by rw [← at1_tx]; exact pv_txV rdG_rdr av1_ok
theorem at2_spl : spl rdG at2 = some [av2, av3, av4] := by
  have e2 : txV av2 = [49] := by kernel_rfl
  have e3 : txV av3 = [91, 50, 32, 51, 93] := by kernel_rfl
  have e4 : txV av4 = [116, 114, 117, 101] := rfl
  have h : at2 = 32 :: (txV av2 ++ (32 :: (32 :: (txV av3 ++ (32 :: (txV av4 ++ [32])))))) := by rw [e2, e3, e4]; rfl
  rw [h, spl_blank, spl_txV rdG_rdr av2_ok _ rfl, spl_blank, spl_blank, spl_txV rdG_rdr av3_ok _ rfl, spl_blank, spl_txV rdG_rdr (v := av4) trivial _ rfl, spl_blank, spl_nil rfl]
  rfl

/-- A row's values, cell by cell. -/
theorem itsC_get : ∀ (l : List It) (k j : Nat) (i : It), l[k]? = some i → j < 4 → (itsC l)[k * 4 + j]? = (itC i)[j]? := by
  intro l
  induction l with
  | nil => intro k j i h; simp at h
  | cons a r ih =>
    intro k j i h hj
    have e : itsC (a :: r) = itC a ++ itsC r := rfl
    have hl : (itC a).length = 4 := rfl
    rw [e]
    cases k with
    | zero =>
      simp only [List.getElem?_cons_zero, Option.some.injEq] at h
      rw [Nat.zero_mul, Nat.zero_add, List.getElem?_append_left (by omega), h]
    | succ k =>
      rw [List.getElem?_append_right (by omega), hl, show (k + 1) * 4 + j - 4 = k * 4 + j by omega]
      exact ih k j i (by simpa using h) hj

theorem SR.at {w : World} {B : Nat} {v : Value} {its : List It} (h : SR w B v its) (hne : its ≠ []) : ∃ g cap, v = .slice (some ⟨g, 0, none⟩) its.length cap ∧ B ≤ g ∧ its.length ≤ cap ∧ ∀ k i, its[k]? = some i → V4 w g (k * 4) i.1 i.2.1 (ofV i.2.2) := by
  rcases h.row.2 with ⟨_, h0⟩ | ⟨g, cap, cur, rfl, h2, h3, h4, _⟩
  · exact absurd (List.length_eq_zero_iff.1 h0) hne
  · refine ⟨g, cap, rfl, h2, h4, fun k i hk => ?_⟩
    have hc := fun j u hj => h.row.cells (g := g) rfl j u hj
    have one : ∀ j u, j < 4 → (itC i)[j]? = some u → w.cell? ⟨g, k * 4 + j, none⟩ = some u := by
      intro j u hj hu
      have := hc (k * 4 + j) u (by rw [itsC_get its k j i hk hj]; exact hu)
      rwa [Addr.add_mid, Nat.zero_add] at this
    exact ⟨one 0 _ (by decide) rfl, one 1 _ (by decide) rfl, one 2 _ (by decide) rfl, one 3 _ (by decide) rfl⟩

theorem txR_of {u : Vl} (hu : okV u) {e : Ending} (h : txR (ofV u) e) : e = .returned (.tuple #[.string (bs (txV u)), .int .i64 0]) := by
  obtain ⟨s, k, rfl, ⟨h1, _⟩ | ⟨x, hx, h2, rfl, rfl⟩⟩ := h
  · rw [sound_ofV hu] at h1; cases h1
  · rw [ofV_inj hu hx h2]
theorem txR_bad {v : Rv} (hv : soundV v = false) {e : Ending} (h : txR v e) : e = .returned (.tuple #[.string (bs []), .int .i64 3]) := by
  obtain ⟨s, k, rfl, ⟨_, rfl, rfl⟩ | ⟨x, hx, h2, _⟩⟩ := h
  · rfl
  · rw [h2, sound_ofV hx] at hv; cases hv

set_option maxHeartbeats 4000000 in
theorem awake9_any (w : World) (hE : Env w) :
    Calls Tryz.prog 8 #[] w fun e w' => e = .returned (.bool true) ∧ Below w.heap.size w w' := by
  have hp := parseV_any at1 (by decide) w hE
  rw [at1_pv, show bs at1 = ⟨#[91, 49, 32, 50, 105, 32, 45, 51, 93]⟩ from rfl] at hp
  have hsp := fun W (hW : Env W) => split_any at2 (by decide) W hW
  rw [at2_spl, show bs at2 = ⟨#[32, 49, 32, 32, 91, 50, 32, 51, 93, 32, 116, 114, 117, 101, 32]⟩ from rfl] at hsp
  go_enter Tryz.func8, Tryz.ntmps8
  go_wp2_with fail
  refine hp.mono ?_
  rintro e w1 ⟨hpa, hb1⟩
  obtain ⟨ao, cap, rfl, hvr, hO⟩ := hpa.ex
  rw [show pR (some av1) = ofV av1 from rfl, show pE (some av1) = 0 from rfl] at *
  have hZ0 := Bk.new w1 35 #[.int .i64 0, .complex .f64 0 0, .bool false, .slice none 0 0]
  clear hpa hp hO
  unfold vV
  go_wp2_with (refine wpList_storeN rfl 35 (.tmp 1) (.tmp 9) rfl w1.heap.size 0 [.int .i64 (ofV av1).t, .complex .f64 (ofV av1).z.1 (ofV av1).z.2, .bool (ofV av1).r, .slice ao (ofV av1).zs.length cap] rfl rfl hZ0 (Nat.le_refl 4) Tryz.infoV (one4 _ _ _ _ _ _ _) ?_; intro w2 hB2 hO2; have c0 : w2.cell? ⟨w1.heap.size, 0, none⟩ = some (.int .i64 (ofV av1).t) := hB2.cell 0; have c1 : w2.cell? ⟨w1.heap.size, 1, none⟩ = some (.complex .f64 (ofV av1).z.1 (ofV av1).z.2) := hB2.cell 1; have c2 : w2.cell? ⟨w1.heap.size, 2, none⟩ = some (.bool (ofV av1).r) := hB2.cell 2; have c3 : w2.cell? ⟨w1.heap.size, 3, none⟩ = some (.slice ao (ofV av1).zs.length cap) := hB2.cell 3)
  have b12 : Below w1.heap.size w1 w2 := (below_alloc w1 _).trans (hO2.below (Nat.le_refl _))
  have b02 := Below.thn hb1 b12
  have htx := text_any (ofV av1) ao cap w2 (env_keep hE b02).tab (hvr.up b12)
  unfold vV at htx
  refine htx.mono ?_
  rintro e w3 ⟨htr, hb3⟩
  have e3 := txR_of av1_ok htr
  rw [at1_tx] at e3
  subst e3
  have b03 := Below.thn b02 hb3
  have hB3 := hB2.up hb3
  clear htr htx c0 c1 c2 c3
  go_wp2_with fail
  refine (hsp _ (env_keep hE b03)).mono ?_
  rintro e w4 ⟨hsa, hb4⟩
  obtain ⟨v4, its, rfl, hSR, hits⟩ := hsa.ex
  rw [show sE (some [av2, av3, av4]) = 0 from rfl]
  have hlen : its.length = 3 := by have := congrArg List.length hits; simpa using this
  obtain ⟨g, cg, rfl, hgB, hgc, hg4⟩ := hSR.at (by intro e; rw [e] at hlen; simp at hlen)
  rw [hlen] at hgc ⊢
  obtain ⟨i1, i2, i3, hi⟩ : ∃ i1 i2 i3, its = [i1, i2, i3] := by
    match its, hlen with
    | [a, b, c], _ => exact ⟨a, b, c, rfl⟩
  subst hi
  simp only [List.map_cons, List.map_nil, Option.getD_some, List.cons.injEq, and_true] at hits
  obtain ⟨q1, q2, q3⟩ := hits
  have m0 := hg4 0 i1 rfl
  have m2 := hg4 2 i3 rfl
  have hi1 := (hSR.its i1 (by simp)).vr
  rw [q1] at m0 hi1
  rw [q3] at m2
  have b04 := Below.thn b03 hb4
  have hB4 := hB3.up hb4
  have hv4 := ((hvr.up b12).up hb3).up hb4
  clear hsa hSR hlen hg4 hsp hb4 hb3 hB3 hB2 hO2 b12 b02 b03 hvr
  have hgl := m0.lt
  have hbl := hB4.lt
  obtain ⟨x0, x1, x2, x3⟩ := m0
  obtain ⟨_, _, y2, _⟩ := m2
  simp only [Nat.zero_mul, Nat.zero_add, Nat.reduceMul, Nat.reduceAdd] at x0 x1 x2 x3 y2
  rw [show (ofV av4).r = true from rfl] at y2
  have c0 : w4.cell? ⟨w1.heap.size, 0, none⟩ = some (.int .i64 (ofV av1).t) := hB4.cell 0
  have c1 : w4.cell? ⟨w1.heap.size, 1, none⟩ = some (.complex .f64 (ofV av1).z.1 (ofV av1).z.2) := hB4.cell 1
  have c2 : w4.cell? ⟨w1.heap.size, 2, none⟩ = some (.bool (ofV av1).r) := hB4.cell 2
  have c3 : w4.cell? ⟨w1.heap.size, 3, none⟩ = some (.slice ao 3 cap) := hB4.cell 3
  have hck := fun W (hW : Vr W ao (ofV av1)) => check_any (ofV av1) ao cap W hW.z hW.l hW.n
  have hs1 := fun W (hW : Vr W ao (ofV av1)) => same_any (ofV av1) (ofV av1) ao ao cap cap W hW hW
  have hs2 := fun W (hW : Vr W ao (ofV av1)) (hV : Vr W i1.1 (ofV av2)) => same_any (ofV av1) (ofV av2) ao i1.1 cap i1.2.1 W hW hV
  have f1 : soundV (ofV av1) = true := sound_ofV av1_ok
  have f2 : sameV (ofV av1) (ofV av1) = true := by unfold sameV; rw [f1]; simp
  have f3 : sameV (ofV av1) (ofV av2) = false := sameV_ne (by intro e; have := congrArg Rv.t e; simp [ofV, av1, av2] at this)
  rw [f1] at hck
  rw [f2] at hs1
  rw [f3] at hs2
  unfold vV at hck hs1 hs2
  rw [show (ofV av1).zs.length = 3 from rfl] at hck hs1 hs2
  have hst : ((bs at1).toList == [91, 49, 32, 50, 105, 32, 45, 51, 93]) = true := by rw [bs_toList]; rfl
  clear f1 f2 f3 hB4 q1 q2 q3
  generalize ofV av1 = v1 at *
  generalize ofV av2 = v2 at *
  have hSS : ∀ X, Below w4.heap.size w4 X → X.cell? ⟨w1.heap.size, 0, none⟩ = some (.int .i64 v1.t) ∧ X.cell? ⟨w1.heap.size, 1, none⟩ = some (.complex .f64 v1.z.1 v1.z.2) ∧ X.cell? ⟨w1.heap.size, 2, none⟩ = some (.bool v1.r) ∧ X.cell? ⟨w1.heap.size, 3, none⟩ = some (.slice ao 3 cap) ∧ X.cell? ⟨g, 0, none⟩ = some (.int .i64 v2.t) ∧ X.cell? ⟨g, 1, none⟩ = some (.complex .f64 v2.z.1 v2.z.2) ∧ X.cell? ⟨g, 2, none⟩ = some (.bool v2.r) ∧ X.cell? ⟨g, 3, none⟩ = some (.slice i1.1 v2.zs.length i1.2.1) ∧ X.cell? ⟨g, 10, none⟩ = some (.bool true) :=
    fun X hX => ⟨(hX.cell hbl).trans c0, (hX.cell hbl).trans c1, (hX.cell hbl).trans c2, (hX.cell hbl).trans c3, (hX.cell hgl).trans x0, (hX.cell hgl).trans x1, (hX.cell hgl).trans x2, (hX.cell hgl).trans x3, (hX.cell hgl).trans y2⟩
  have HS : Hid (∀ X, Below w4.heap.size w4 X → X.cell? ⟨w1.heap.size, 0, none⟩ = some (.int .i64 v1.t) ∧ X.cell? ⟨w1.heap.size, 1, none⟩ = some (.complex .f64 v1.z.1 v1.z.2) ∧ X.cell? ⟨w1.heap.size, 2, none⟩ = some (.bool v1.r) ∧ X.cell? ⟨w1.heap.size, 3, none⟩ = some (.slice ao 3 cap) ∧ X.cell? ⟨g, 0, none⟩ = some (.int .i64 v2.t) ∧ X.cell? ⟨g, 1, none⟩ = some (.complex .f64 v2.z.1 v2.z.2) ∧ X.cell? ⟨g, 2, none⟩ = some (.bool v2.r) ∧ X.cell? ⟨g, 3, none⟩ = some (.slice i1.1 v2.zs.length i1.2.1) ∧ X.cell? ⟨g, 10, none⟩ = some (.bool true)) := hSS
  have s4 := hSS w4 (Below.refl _ _)
  have bD := (Below.refl w4.heap.size w4).drew
  have sD := hSS w4.drew bD
  have g1 : (2 : Int) < 3 := by decide
  clear c0 c1 c2 c3 x0 x1 x2 x3 y2 hSS
  go_upto_region 4 with fail
  go_region_held3 (fun X => X.cell? ⟨w1.heap.size, 0, none⟩ = some (.int .i64 v1.t) ∧ X.cell? ⟨w1.heap.size, 1, none⟩ = some (.complex .f64 v1.z.1 v1.z.2) ∧ X.cell? ⟨w1.heap.size, 2, none⟩ = some (.bool v1.r) ∧ X.cell? ⟨w1.heap.size, 3, none⟩ = some (.slice ao 3 cap) ∧ X.cell? ⟨g, 0, none⟩ = some (.int .i64 v2.t) ∧ X.cell? ⟨g, 1, none⟩ = some (.complex .f64 v2.z.1 v2.z.2) ∧ X.cell? ⟨g, 2, none⟩ = some (.bool v2.r) ∧ X.cell? ⟨g, 3, none⟩ = some (.slice i1.1 v2.zs.length i1.2.1) ∧ X.cell? ⟨g, 10, none⟩ = some (.bool true))
    (first | (with_reducible exact sD) | (with_reducible exact s4) | (with_reducible exact s5) | (with_reducible exact s6) | (with_reducible exact s7)) (first
    | (go_at_call 13; (with_reducible refine Calls.mono (hck _ (hv4.up bD)) ?_); rintro e w5 ⟨rfl, hb5⟩; have b5 := Below.thn bD hb5; have s5 := HS.out w5 b5)
    | (go_at_call 14; (with_reducible refine Calls.mono (hs1 _ (hv4.up b5)) ?_); rintro e w6 ⟨rfl, hb6⟩; have b6 := Below.thn b5 hb6; have s6 := HS.out w6 b6)
    | (go_at_call 14; (with_reducible refine Calls.mono (hs2 _ (hv4.up b6) (hi1.up b6)) ?_); rintro e w7 ⟨rfl, hb7⟩; have b7 := Below.thn b6 hb7; have s7 := HS.out w7 b7)
    | fail)
  all_goals
    go_wp2_with fail
    go_ret
    exact ⟨rfl, Below.thn b04 b7⟩
end Go.Proofs.YtbgggbkmnfppoaaGreatDoor
