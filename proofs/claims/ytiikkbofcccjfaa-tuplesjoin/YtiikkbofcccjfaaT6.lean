/-
  Tables as they lie; the program's New and the document's.
-/
import Derived.Test.YtiikkbofcccjfaaT5
import Derived.Deep.RegionWith
namespace Go.Proofs.Ytiikkbofcccjfaa
open Go.RowKit
open Go.Lib
open RowsM
set_option maxRecDepth 100000

/-- Block b holds a struct of four cells. -/
def S4 (w : World) (b : Nat) (x y z u : Value) : Prop := w.heap[b]? = some (.cells #[x, y, z, u] 43 (0, 0))
theorem S4.lt {w : World} {b : Nat} {x y z u : Value} (h : S4 w b x y z u) : b < w.heap.size := by
  rcases Nat.lt_or_ge b w.heap.size with k | k
  · exact k
  · unfold S4 at h; rw [Array.getElem?_eq_none k] at h; cases h
theorem S4.cells {w : World} {b : Nat} {x y z u : Value} (h : S4 w b x y z u) : w.cell? ⟨b, 0, none⟩ = some x ∧ w.cell? ⟨b, 1, none⟩ = some y ∧ w.cell? ⟨b, 2, none⟩ = some z ∧ w.cell? ⟨b, 3, none⟩ = some u := by
  refine ⟨?_, ?_, ?_, ?_⟩
  · rw [cell_of_row w _ 0 _ _ _ h]; rfl
  · rw [cell_of_row w _ 1 _ _ _ h]; rfl
  · rw [cell_of_row w _ 2 _ _ _ h]; rfl
  · rw [cell_of_row w _ 3 _ _ _ h]; rfl
theorem S4.free {w : World} {b : Nat} {x y z u : Value} (h : S4 w b x y z u) : w.frozen? ⟨b, 0, none⟩ = false ∧ w.frozen? ⟨b, 1, none⟩ = false ∧ w.frozen? ⟨b, 2, none⟩ = false ∧ w.frozen? ⟨b, 3, none⟩ = false :=
  ⟨frozen_of_row w _ 0 _ _ h, frozen_of_row w _ 1 _ _ h, frozen_of_row w _ 2 _ _ h, frozen_of_row w _ 3 _ _ h⟩
theorem S4.new (w : World) (x y z u : Value) : S4 (w.alloc (.cells #[x, y, z, u] 43)) w.heap.size x y z u := heap_alloc_new w _
theorem S4.up {w w' : World} {b : Nat} {x y z u : Value} (h : S4 w b x y z u) (hb : Below w.heap.size w w') : S4 w' b x y z u := by
  unfold S4; rw [hb.block b h.lt]; exact h
theorem S4.alloc {w : World} {b : Nat} {x y z u : Value} (h : S4 w b x y z u) (o : Obj) : S4 (w.alloc o) b x y z u := h.up (below_alloc _ _)

/-- A table's parts as they lie: its types and its words. -/
structure TbW (w : World) (ks : List Int) (xs : List Nat) (ao bo : Option Addr) (ca cb : Nat) : Prop where
  iz : Iz w ao ks
  rd : Rd w bo xs
  l1 : ks.length ≤ 17592186043904
  l2 : xs.length ≤ 17592186043904
  c1 : ao = none → ca = 0
  c2 : bo = none → cb = 0
theorem TbW.up {w w' : World} {ks : List Int} {xs : List Nat} {ao bo : Option Addr} {ca cb : Nat} (h : TbW w ks xs ao bo ca cb) (hb : Below w.heap.size w w') : TbW w' ks xs ao bo ca cb :=
  ⟨h.iz.up hb, h.rd.up hb, h.l1, h.l2, h.c1, h.c2⟩

/-- A row of types of the call's own. -/
def OwT (w : World) (B : Nat) (v : Value) (ks : List Int) : Prop := w.ownsRow B 38 1 v ks.length (ks.map fun z => .int .i64 z)
theorem owns_up {w w' : World} {B : Nat} {T : TypeId} {k n : Nat} {v : Value} {xs : List Value} (h : w.ownsRow B T k v n xs) (hb : Below w.heap.size w w') : w'.ownsRow B T k v n xs := by
  refine ⟨h.1, ?_⟩
  rcases h.2 with h | ⟨g, c, cur, h1, h2, h3, h4⟩
  · exact .inl h
  · have hl : g < w.heap.size := (Array.getElem?_eq_some_iff.1 h3).1
    exact .inr ⟨g, c, cur, h1, h2, by rw [hb.block g hl]; exact h3, h4⟩
theorem owns_mono {w : World} {B B' : Nat} {T : TypeId} {k n : Nat} {v : Value} {xs : List Value} (h : w.ownsRow B T k v n xs) (hB : B' ≤ B) : w.ownsRow B' T k v n xs := by
  refine ⟨h.1, ?_⟩
  rcases h.2 with h | ⟨g, c, cur, h1, h2, h3⟩
  · exact .inl h
  · exact .inr ⟨g, c, cur, h1, Nat.le_trans hB h2, h3⟩
/-- .. and a cell written elsewhere. -/
theorem owns_set {w : World} {B b j : Nat} {T : TypeId} {k n : Nat} {v u : Value} {xs : List Value} (h : w.ownsRow B T k v n xs) (hb : b < B) : (w.setCell ⟨b, j, none⟩ u).ownsRow B T k v n xs := by
  refine ⟨h.1, ?_⟩
  rcases h.2 with h | ⟨g, c, cur, h1, h2, h3, h4⟩
  · exact .inl h
  · exact .inr ⟨g, c, cur, h1, h2, by rw [Below.heap_setCell _ _ _ _ (by show g ≠ b; omega)]; exact h3, h4⟩
theorem Rd.set {w : World} {so : Option Addr} {xs : List Nat} (h : Rd w so xs) {B b j : Nat} {u : Value} (hs : xs ≠ [] → ∀ g off, so = some ⟨g, off, none⟩ → B ≤ g) (hb : b < B) : Rd (w.setCell ⟨b, j, none⟩ u) so xs :=
  h.other (by intro hn g off e; have := hs hn g off e; show g ≠ b; omega) u

/-- Where the words of a new row lie: all behind B. -/
def Hi (so : Option Addr) (xs : List Nat) (B : Nat) : Prop := xs ≠ [] → ∀ g off, so = some ⟨g, off, none⟩ → B ≤ g

/-- What New tells. -/
def newE (ks : List Int) (t : Int) : Int := if cntE ks = 0 then if topP t < 0 then 3 else 0 else cntE ks
def newK (ks : List Int) (t : Int) : List Int := if newE ks t = 0 then ks else []
def newT (ks : List Int) (t : Int) : Int := if newE ks t = 0 then t else 0
def newN (ks : List Int) (t : Int) : Int := if newE ks t = 0 then prodT ks else 0
def newX (ks : List Int) (t : Int) : List Nat := if newE ks t = 0 then zerosN (prodT ks) else []

/-- A table of the call's own, and a fault's number beside it. -/
def TabEnd (K : List Int) (T N E : Int) (X : List Nat) (w : World) (e : Ending) (w' : World) : Prop :=
  ∃ po pc so cap, e = .returned (.tuple #[.agg #[.slice po K.length pc, .int .i64 T, .int .i64 N, .slice so X.length cap], .int .i64 E]) ∧ OwT w' w.heap.size (.slice po K.length pc) K ∧ Fresh w w' so cap X ∧ Below w.heap.size w w'
/-- .. and of the document's, of whose words it is only known how they read. -/
def TabRd (K : List Int) (T N E : Int) (X : List Nat) (w : World) (e : Ending) (w' : World) : Prop :=
  ∃ po pc so cap, e = .returned (.tuple #[.agg #[.slice po K.length pc, .int .i64 T, .int .i64 N, .slice so X.length cap], .int .i64 E]) ∧ OwT w' w.heap.size (.slice po K.length pc) K ∧ Rd w' so X ∧ Below w.heap.size w w'
theorem TabEnd.rd {K : List Int} {T N E : Int} {X : List Nat} {w w' : World} {e : Ending} (h : TabEnd K T N E X w e w') : TabRd K T N E X w e w' := by
  obtain ⟨po, pc, so, cap, he, h1, h2, h3⟩ := h
  exact ⟨po, pc, so, cap, he, h1, h2.rd, h3⟩

/-- What lies elsewhere than the table's own block stays when that is written. -/
def set4 (w : World) (b : Nat) (x y z u : Value) : World := (((w.setCell ⟨b, 0, none⟩ x).setCell ⟨b, 1, none⟩ y).setCell ⟨b, 2, none⟩ z).setCell ⟨b, 3, none⟩ u
theorem set4_heap (w : World) (b : Nat) (x y z u : Value) {g : Nat} (h : g ≠ b) : (set4 w b x y z u).heap[g]? = w.heap[g]? := by
  unfold set4
  rw [Below.heap_setCell _ _ _ _ (by show g ≠ b; exact h), Below.heap_setCell _ _ _ _ (by show g ≠ b; exact h), Below.heap_setCell _ _ _ _ (by show g ≠ b; exact h), Below.heap_setCell _ _ _ _ (by show g ≠ b; exact h)]
theorem below_set4 {w0 w : World} {B b : Nat} (h : Below B w0 w) (hb : B ≤ b) (x y z u : Value) : Below B w0 (set4 w b x y z u) := (((h.setCell hb _).setCell hb _).setCell hb _).setCell hb _
theorem owns_set4 {w : World} {B b : Nat} {T : TypeId} {k n : Nat} {v x y z u : Value} {xs : List Value} (h : w.ownsRow B T k v n xs) (hb : b < B) : (set4 w b x y z u).ownsRow B T k v n xs := by
  refine ⟨h.1, ?_⟩
  rcases h.2 with h | ⟨g, c, cur, h1, h2, h3, h4⟩
  · exact .inl h
  · exact .inr ⟨g, c, cur, h1, h2, by rw [set4_heap _ _ _ _ _ _ (by omega)]; exact h3, h4⟩
theorem fresh_set4 {w w' : World} {so : Option Addr} {cap b : Nat} {L : List Nat} {x y z u : Value} (h : Fresh w w' so cap L) (hb : b < w.heap.size) : Fresh w (set4 w' b x y z u) so cap L := by
  refine ⟨h.1, ?_⟩
  rcases h.2 with h | ⟨g, h1, h2, h3, h4⟩
  · exact .inl h
  · exact .inr ⟨g, h1, h2, by unfold Ob; rw [set4_heap _ _ _ _ _ _ (by omega)]; exact h3, h4⟩
theorem fresh_up {w w' w'' : World} {so : Option Addr} {cap : Nat} {L : List Nat} (h : Fresh w w' so cap L) (hb : Below w'.heap.size w' w'') : Fresh w w'' so cap L := by
  refine ⟨h.1, ?_⟩
  rcases h.2 with h | ⟨g, h1, h2, h3, h4⟩
  · exact .inl h
  · exact .inr ⟨g, h1, h2, h3.up hb h3.lt, h4⟩
theorem fresh_mono {w0 w w' : World} {so : Option Addr} {cap : Nat} {L : List Nat} (h : Fresh w w' so cap L) (hb : w0.heap.size ≤ w.heap.size) : Fresh w0 w' so cap L := by
  refine ⟨h.1, ?_⟩
  rcases h.2 with h | ⟨g, h1, h2, h3, h4⟩
  · exact .inl h
  · exact .inr ⟨g, h1, h2, h3, Nat.le_trans hb h4⟩
theorem rd_set4 {w : World} {b : Nat} {so : Option Addr} {xs : List Nat} {c0 c3 : Value} {t n : Int} (h : Rd w so xs) (hs : S4 w b c0 (.int .i64 t) (.int .i64 n) c3) (h0 : ∀ z : Int, c0 ≠ .int .u64 z) (h3 : ∀ z : Int, c3 ≠ .int .u64 z) (x y z u : Value) : Rd (set4 w b x y z u) so xs := by
  have hne : xs ≠ [] → ∀ g off, so = some ⟨g, off, none⟩ → g ≠ b := by
    intro hx g off e hg
    subst hg
    obtain ⟨g', off', e', hc⟩ := h.pl hx
    rw [e] at e'
    simp only [Option.some.injEq, Addr.mk.injEq, and_true] at e'
    obtain ⟨rfl, rfl⟩ := e'
    have h1 := hc 0 (List.length_pos_iff.2 hx)
    rw [cell_of_row w _ _ _ _ _ hs] at h1
    rcases h : off with _ | _ | _ | _ | n
    all_goals rw [h] at h1
    · simp at h1; exact h0 _ h1
    · simp at h1
    · simp at h1
    · simp at h1; exact h3 _ h1
    · simp at h1
  refine ⟨h.lt, fun hn => ?_⟩
  obtain ⟨g, off, e, hc⟩ := h.pl hn
  refine ⟨g, off, e, fun t ht => ?_⟩
  have h1 := hc t ht
  simp only [World.cell?] at h1 ⊢
  rw [set4_heap _ _ _ _ _ _ (hne hn g off e)]
  exact h1

theorem tab_no {c : Int} {w w' : World} (h : Below w.heap.size w w') : TabEnd [] 0 0 c [] w (.returned (.tuple #[.agg #[.slice none 0 0, .int .i64 0, .int .i64 0, .slice none 0 0], .int .i64 c])) w' :=
  ⟨none, 0, none, 0, rfl, World.ownsRow_nil _ _ _ _, ⟨by simp, .inl ⟨rfl, rfl, rfl⟩⟩, h⟩
theorem owT_nil (w : World) (B : Nat) : OwT w B (.slice none 0 0) [] := World.ownsRow_nil _ _ _ _
theorem new_no {ks : List Int} {t c : Int} (h : newE ks t = c) (hc : c ≠ 0) : newK ks t = [] ∧ newT ks t = 0 ∧ newN ks t = 0 ∧ newX ks t = [] ∧ newE ks t = c := by
  subst h
  unfold newK newT newN newX
  rw [if_neg hc, if_neg hc, if_neg hc, if_neg hc]
  simp
theorem new_yes {ks : List Int} {t : Int} (h : cntE ks = 0) (ht : 0 ≤ topP t) : newK ks t = ks ∧ newT ks t = t ∧ newN ks t = prodT ks ∧ newX ks t = zerosN (prodT ks) ∧ newE ks t = 0 := by
  have e : newE ks t = 0 := by unfold newE; rw [if_pos h, if_neg (by omega)]
  unfold newK newT newN newX
  rw [e]
  simp
theorem new_cnt {ks : List Int} {t : Int} (h : cntE ks ≠ 0) : newE ks t = cntE ks := by unfold newE; rw [if_neg h]
theorem new_type {ks : List Int} {t : Int} (h : cntE ks = 0) (ht : topP t < 0) : newE ks t = 3 := by unfold newE; rw [if_pos h, if_pos ht]

set_option maxHeartbeats 1000000 in
theorem new16_any (ks : List Int) (t : Int) (ao : Option Addr) (ca : Nat) (w : World) (h : Iz w ao ks) (hl : ks.length ≤ 17592186043904) (hcap : ao = none → ca = 0) :
    Calls Try.prog 17 #[.slice ao ks.length ca, .int .i64 t] w fun e w' => TabEnd (newK ks t) (newT ks t) (newN ks t) (newE ks t) (newX ks t) w e w' := by
  have s0 := S4.new w (.slice none 0 0) (.int .i64 0) (.int .i64 0) (.slice none 0 0)
  have b0 := below_alloc w (.cells #[.slice none 0 0, .int .i64 0, .int .i64 0, .slice none 0 0] 43)
  have h0 := h.up b0
  have hz0 : w.heap.size + 1 = (w.alloc (.cells #[.slice none 0 0, .int .i64 0, .int .i64 0, .slice none 0 0] 43)).heap.size := by simp
  have hcn := count16_any ks ao ca _ h0 hl
  have hty := fun w => isType_any t w
  by_cases hE : cntE ks = 0
  · by_cases ht : 0 ≤ topP t
    · obtain ⟨k1, k2, k3, k4, k5⟩ := new_yes hE ht
      rw [k1, k2, k3, k4, k5]
      have hok := cntE_zero hE
      have hpp := prodT_pos hok.1
      rw [hE, cntV_zero hE] at hcn
      have hok4 := hok.2
      clear k1 k2 k3 k4 k5 hok hE
      generalize prodT ks = N at *
      have hokN : okN N = true := by unfold okN; simp; omega
      have hrn := fun w => new_any N w
      rw [hokN] at hrn
      simp only [if_true] at hrn
      generalize zerosN N = Z at *
      clear hokN
      have hd : decide (0 ≤ topP t) = true := decide_eq_true ht
      rw [hd] at hty
      clear hd
      go_enter Try.func17, Try.ntmps17
      go_wp2_with fail
      refine hcn.mono ?_
      rintro e w1 ⟨rfl, hb⟩
      have s1 := s0.up hb
      have h1 := h0.up hb
      have b1 := Below.thn b0 hb
      have z1 := hb.size
      rw [← hz0] at z1
      clear s0 h0 b0 hcn hb hz0 h
      go_wp2_with fail
      refine (hty _).mono ?_
      rintro e w2 ⟨rfl, rfl⟩
      clear hty
      go_wp2_with fail
      refine (hrn _).mono ?_
      rintro e w3 ⟨so, cap, rfl, hf, hb⟩
      have s3 := (s1.up hb).alloc (.cells #[.int .i64 N, .slice so Z.length cap] 41)
      have h3 := (h1.up hb).up (below_alloc _ (.cells #[.int .i64 N, .slice so Z.length cap] 41))
      have b3 := Below.thn (Below.thn b1 hb) (below_alloc _ (.cells #[.int .i64 N, .slice so Z.length cap] 41))
      have t3 := St.new w3 (.int .i64 N) (.slice so Z.length cap)
      have z3 := hb.size
      have f3 := fresh_up hf (below_alloc _ (.cells #[.int .i64 N, .slice so Z.length cap] 41))
      have zz : w3.heap.size ≤ (w3.alloc (.cells #[.int .i64 N, .slice so Z.length cap] 41)).heap.size := by simp
      clear s1 h1 b1 hb hrn hf
      obtain ⟨p0, p1, _, _⟩ := t3.cells
      go_wp2_with fail
      generalize hW : w3.alloc (.cells #[.int .i64 N, .slice so Z.length cap] 41) = W at *
      clear hW
      have hcp : ∀ W', Below W.heap.size W W' → Calls Try.prog 38 #[.slice ao ks.length ca] W' fun e w' => (∃ v, e = .returned v ∧ w'.ownsRow W'.heap.size 38 1 v ks.length (ks.map fun z => .int .i64 z)) ∧ Below W'.heap.size W' w' := fun W' hW => copiedT_any ks ao ca W' (h3.up hW) hl hcap
      have hs3 := s3.lt
      go_region_with (go_at_call 38; refine (hcp _ ?_).mono ?_; exact Below.drew (Below.refl _ _); rintro e w7 ⟨⟨v, rfl, hO⟩, hb7⟩; have b7 := Below.thn (Below.refl _ W).drew hb7; have s7 := s3.up b7; have t7 := t3.up b7; obtain ⟨q0, q1, q2, q3⟩ := s7.free; obtain ⟨r0, r1, r2, r3⟩ := s7.cells; obtain ⟨u0, u1, _, _⟩ := t7.cells; obtain ⟨po, pc, rfl, hiz, hpl, hpg⟩ := own_iz hO rfl; have HB : Hid (Below w.heap.size w w7) := Below.thn b3 b7; have HB7 : Hid (Below W.heap.size W w7) := b7; have HO : Hid (w7.ownsRow W.heap.size 38 1 (.slice po ks.length pc) ks.length (ks.map fun z => .int .i64 z)) := hO; clear hO b7 hb7 hiz hpl hpg t7)
      all_goals
        go_wp2
        refine bodyPost_ret (v := .tuple #[.agg #[.slice po ks.length pc, .int .i64 t, .int .i64 N, .slice so Z.length cap], .int .i64 0]) (by simp [results, Try.results17, go_sem, r0, r1, r2, r3]) rfl ?_
        exact ⟨po, pc, so, cap, rfl, owns_mono (owns_set4 HO.out hs3) (Nat.le_of_lt hs3), fresh_mono (fresh_set4 (fresh_up f3 HB7.out) (by omega)) (by omega), below_set4 HB.out (Nat.le_refl _) _ _ _ _⟩
    · have hn : topP t < 0 := by omega
      obtain ⟨k1, k2, k3, k4, k5⟩ := new_no (new_type hE hn) (by decide)
      rw [k1, k2, k3, k4, k5]
      rw [hE] at hcn
      generalize cntV ks = N at *
      clear k1 k2 k3 k4 k5 hE
      have hd : decide (0 ≤ topP t) = false := decide_eq_false (by omega)
      rw [hd] at hty
      clear hd
      go_enter Try.func17, Try.ntmps17
      go_wp2_with fail
      refine hcn.mono ?_
      rintro e w1 ⟨rfl, hb⟩
      have s1 := s0.up hb
      have b1 := Below.thn b0 hb
      obtain ⟨q0, q1, q2, q3⟩ := s1.free
      obtain ⟨r0, r1, r2, r3⟩ := s1.cells
      clear s0 h0 b0 hcn hb hz0 h
      go_wp2_with fail
      refine (hty _).mono ?_
      rintro e w2 ⟨rfl, rfl⟩
      clear hty
      go_wp2
      refine bodyPost_ret (v := .tuple #[.agg #[.slice none 0 0, .int .i64 0, .int .i64 0, .slice none 0 0], .int .i64 3]) (by simp [results, Try.results17, go_sem, r0, r1, r2, r3]) rfl ?_
      exact (tab_no (below_set4 b1 (Nat.le_refl _) _ _ _ _))
  · obtain ⟨k1, k2, k3, k4, k5⟩ := new_no (new_cnt (t := t) hE) hE
    rw [k1, k2, k3, k4, k5]
    generalize cntV ks = N at *
    have hc := cntE_cases ks
    generalize cntE ks = c at *
    clear k1 k2 k3 k4 k5 hty
    rcases hc with rfl | rfl | rfl
    · exact absurd rfl hE
    · clear hE
      go_enter Try.func17, Try.ntmps17
      go_wp2_with fail
      refine hcn.mono ?_
      rintro e w1 ⟨rfl, hb⟩
      have s1 := s0.up hb
      have b1 := Below.thn b0 hb
      obtain ⟨q0, q1, q2, q3⟩ := s1.free
      obtain ⟨r0, r1, r2, r3⟩ := s1.cells
      clear s0 h0 b0 hcn hb hz0 h
      go_wp2
      refine bodyPost_ret (v := .tuple #[.agg #[.slice none 0 0, .int .i64 0, .int .i64 0, .slice none 0 0], .int .i64 3]) (by simp [results, Try.results17, go_sem, r0, r1, r2, r3]) rfl ?_
      exact (tab_no (below_set4 b1 (Nat.le_refl _) _ _ _ _))
    · clear hE
      go_enter Try.func17, Try.ntmps17
      go_wp2_with fail
      refine hcn.mono ?_
      rintro e w1 ⟨rfl, hb⟩
      have s1 := s0.up hb
      have b1 := Below.thn b0 hb
      obtain ⟨q0, q1, q2, q3⟩ := s1.free
      obtain ⟨r0, r1, r2, r3⟩ := s1.cells
      clear s0 h0 b0 hcn hb hz0 h
      go_wp2
      refine bodyPost_ret (v := .tuple #[.agg #[.slice none 0 0, .int .i64 0, .int .i64 0, .slice none 0 0], .int .i64 22]) (by simp [results, Try.results17, go_sem, r0, r1, r2, r3]) rfl ?_
      exact (tab_no (below_set4 b1 (Nat.le_refl _) _ _ _ _))

set_option maxHeartbeats 1000000 in
theorem rnew16_any (ks : List Int) (t : Int) (ao : Option Addr) (ca : Nat) (w : World) (h : Iz w ao ks) (hl : ks.length ≤ 17592186043904) (hcap : ao = none → ca = 0) :
    Calls Try.prog 18 #[.slice ao ks.length ca, .int .i64 t] w fun e w' => TabRd (newK ks t) (newT ks t) (newN ks t) (newE ks t) (newX ks t) w e w' := by
  have s0 := S4.new w (.slice none 0 0) (.int .i64 0) (.int .i64 0) (.slice none 0 0)
  have b0 := below_alloc w (.cells #[.slice none 0 0, .int .i64 0, .int .i64 0, .slice none 0 0] 43)
  have h0 := h.up b0
  have hz0 : w.heap.size + 1 = (w.alloc (.cells #[.slice none 0 0, .int .i64 0, .int .i64 0, .slice none 0 0] 43)).heap.size := by simp
  have hcn := rcount_any ks ao ca _ h0 hl
  have hty := fun w => rtop_any t w
  by_cases hE : cntE ks = 0
  · by_cases ht : 0 ≤ topP t
    · obtain ⟨k1, k2, k3, k4, k5⟩ := new_yes hE ht
      rw [k1, k2, k3, k4, k5]
      have hok := cntE_zero hE
      have hpp := prodT_pos hok.1
      rw [hE, cntV_zero hE] at hcn
      have hok4 := hok.2
      clear k1 k2 k3 k4 k5 hok hE
      generalize prodT ks = N at *
      have hokN : okN N = true := by unfold okN; simp; omega
      have hrn := fun w => refnew_any N w
      rw [hokN] at hrn
      simp only [if_true] at hrn
      generalize zerosN N = Z at *
      clear hokN
      generalize topP t = tp at *
      go_enter Try.func18, Try.ntmps18
      go_wp2_with fail
      refine hcn.mono ?_
      rintro e w1 ⟨rfl, hb⟩
      have s1 := s0.up hb
      have h1 := h0.up hb
      have b1 := Below.thn b0 hb
      have z1 := hb.size
      rw [← hz0] at z1
      clear s0 h0 b0 hcn hb hz0 h
      go_wp2_with fail
      refine (hty _).mono ?_
      rintro e w2 ⟨rfl, rfl⟩
      clear hty
      go_wp2_with fail
      refine (hrn _).mono ?_
      rintro e w3 ⟨so, cap, rfl, hf, hb⟩
      have s3 := (s1.up hb).alloc (.cells #[.int .i64 N, .slice so Z.length cap] 41)
      have h3 := (h1.up hb).up (below_alloc _ (.cells #[.int .i64 N, .slice so Z.length cap] 41))
      have b3 := Below.thn (Below.thn b1 hb) (below_alloc _ (.cells #[.int .i64 N, .slice so Z.length cap] 41))
      have t3 := St.new w3 (.int .i64 N) (.slice so Z.length cap)
      have z3 := hb.size
      have f3 := hf.up (below_alloc _ (.cells #[.int .i64 N, .slice so Z.length cap] 41))
      have zz : w3.heap.size ≤ (w3.alloc (.cells #[.int .i64 N, .slice so Z.length cap] 41)).heap.size := by simp
      clear s1 h1 b1 hb hrn hf
      obtain ⟨p0, p1, _, _⟩ := t3.cells
      go_wp2_with fail
      generalize hW : w3.alloc (.cells #[.int .i64 N, .slice so Z.length cap] 41) = W at *
      clear hW
      have hcp : ∀ W', Below W.heap.size W W' → Calls Try.prog 40 #[.slice ao ks.length ca] W' fun e w' => (∃ v, e = .returned v ∧ w'.ownsRow W'.heap.size 38 1 v ks.length (ks.map fun z => .int .i64 z)) ∧ Below W'.heap.size W' w' := fun W' hW => rcopiedT_any ks ao ca W' (h3.up hW) hl hcap
      have hs3 := s3.lt
      go_region_with (go_at_call 40; refine (hcp _ ?_).mono ?_; exact Below.drew (Below.refl _ _); rintro e w7 ⟨⟨v, rfl, hO⟩, hb7⟩; have b7 := Below.thn (Below.refl _ W).drew hb7; have s7 := s3.up b7; have t7 := t3.up b7; obtain ⟨q0, q1, q2, q3⟩ := s7.free; obtain ⟨r0, r1, r2, r3⟩ := s7.cells; obtain ⟨u0, u1, _, _⟩ := t7.cells; obtain ⟨po, pc, rfl, hiz, hpl, hpg⟩ := own_iz hO rfl; have HB : Hid (Below w.heap.size w w7) := Below.thn b3 b7; have HB7 : Hid (Below W.heap.size W w7) := b7; have HO : Hid (w7.ownsRow W.heap.size 38 1 (.slice po ks.length pc) ks.length (ks.map fun z => .int .i64 z)) := hO; clear hO b7 hb7 hiz hpl hpg t7)
      all_goals
        go_wp2
        refine bodyPost_ret (v := .tuple #[.agg #[.slice po ks.length pc, .int .i64 t, .int .i64 N, .slice so Z.length cap], .int .i64 0]) (by simp [results, Try.results18, go_sem, r0, r1, r2, r3]) rfl ?_
        exact ⟨po, pc, so, cap, rfl, owns_mono (owns_set4 HO.out hs3) (Nat.le_of_lt hs3), rd_set4 (f3.up HB7.out) s7 (by intro z hz; cases hz) (by intro z hz; cases hz) _ _ _ _, below_set4 HB.out (Nat.le_refl _) _ _ _ _⟩
    · have hn : topP t < 0 := by omega
      obtain ⟨k1, k2, k3, k4, k5⟩ := new_no (new_type hE hn) (by decide)
      rw [k1, k2, k3, k4, k5]
      rw [hE] at hcn
      generalize cntV ks = N at *
      clear k1 k2 k3 k4 k5 hE
      generalize topP t = tp at *
      go_enter Try.func18, Try.ntmps18
      go_wp2_with fail
      refine hcn.mono ?_
      rintro e w1 ⟨rfl, hb⟩
      have s1 := s0.up hb
      have b1 := Below.thn b0 hb
      obtain ⟨q0, q1, q2, q3⟩ := s1.free
      obtain ⟨r0, r1, r2, r3⟩ := s1.cells
      clear s0 h0 b0 hcn hb hz0 h
      go_wp2_with fail
      refine (hty _).mono ?_
      rintro e w2 ⟨rfl, rfl⟩
      clear hty
      go_wp2
      refine bodyPost_ret (v := .tuple #[.agg #[.slice none 0 0, .int .i64 0, .int .i64 0, .slice none 0 0], .int .i64 3]) (by simp [results, Try.results18, go_sem, r0, r1, r2, r3]) rfl ?_
      exact (tab_no (below_set4 b1 (Nat.le_refl _) _ _ _ _)).rd
  · obtain ⟨k1, k2, k3, k4, k5⟩ := new_no (new_cnt (t := t) hE) hE
    rw [k1, k2, k3, k4, k5]
    generalize cntV ks = N at *
    have hc := cntE_cases ks
    generalize cntE ks = c at *
    clear k1 k2 k3 k4 k5 hty
    rcases hc with rfl | rfl | rfl
    · exact absurd rfl hE
    · clear hE
      go_enter Try.func18, Try.ntmps18
      go_wp2_with fail
      refine hcn.mono ?_
      rintro e w1 ⟨rfl, hb⟩
      have s1 := s0.up hb
      have b1 := Below.thn b0 hb
      obtain ⟨q0, q1, q2, q3⟩ := s1.free
      obtain ⟨r0, r1, r2, r3⟩ := s1.cells
      clear s0 h0 b0 hcn hb hz0 h
      go_wp2
      refine bodyPost_ret (v := .tuple #[.agg #[.slice none 0 0, .int .i64 0, .int .i64 0, .slice none 0 0], .int .i64 3]) (by simp [results, Try.results18, go_sem, r0, r1, r2, r3]) rfl ?_
      exact (tab_no (below_set4 b1 (Nat.le_refl _) _ _ _ _)).rd
    · clear hE
      go_enter Try.func18, Try.ntmps18
      go_wp2_with fail
      refine hcn.mono ?_
      rintro e w1 ⟨rfl, hb⟩
      have s1 := s0.up hb
      have b1 := Below.thn b0 hb
      obtain ⟨q0, q1, q2, q3⟩ := s1.free
      obtain ⟨r0, r1, r2, r3⟩ := s1.cells
      clear s0 h0 b0 hcn hb hz0 h
      go_wp2
      refine bodyPost_ret (v := .tuple #[.agg #[.slice none 0 0, .int .i64 0, .int .i64 0, .slice none 0 0], .int .i64 22]) (by simp [results, Try.results18, go_sem, r0, r1, r2, r3]) rfl ?_
      exact (tab_no (below_set4 b1 (Nat.le_refl _) _ _ _ _)).rd
end Go.Proofs.Ytiikkbofcccjfaa
