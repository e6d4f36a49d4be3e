/-
  The walk of both.
-/
import Derived.Test.YtkonkplalgoekaaGreatDoorNe
namespace Go.Proofs.YtkonkplalgoekaaGreatDoor
open Go.RowKit
set_option maxRecDepth 100000

theorem below_n {w w' : World} (o : Obj) (h : Below w.heap.size w w') : Below w.heap.size w (w'.alloc o) := h.alloc h.size o
theorem ExW.up {w w' : World} {A : Nat → Prop} {e : Ex} {vs : List Value} (h : ExW w A e vs) (hb : Below w.heap.size w w') : ExW w' A e vs := h.keep fun b _ hl => hb.block b hl

theorem Bk.rng {w : World} {b : Nat} {t : TypeId} {vs : List Value} (h : Bk w b t vs) (o : Nat) (xs : List Value) (hx : ∀ j v, xs[j]? = some v → vs[o + j]? = some v) : w.rangeAt b o xs := by
  intro j v hv
  rw [h.cell]
  exact hx j v hv

theorem Bk.newAt {w : World} {n : Nat} (t : TypeId) (vs : Array Value) (hn : w.heap.size = n) : Bk (w.alloc (.cells vs t)) n t vs.toList := by rw [← hn]; exact Bk.new w t vs

/-- It returns the expression, its parts in blocks of which A holds; all that was there is as it was. -/
def BoEnd (A : Nat → Prop) (w : World) (t : Ex) (e : Ending) (w' : World) : Prop := ∃ V : Array Value, e = .returned (.agg V) ∧ V.size = 7 ∧ ExW w' A t V.toList ∧ Below w.heap.size w w'

theorem over_app (xs : List Value) : ∀ (ps qs : List Value), qs.length = xs.length → over (ps ++ qs) ps.length xs = ps ++ xs := by
  induction xs with
  | nil => intro ps qs h; cases qs with | nil => rfl | cons => simp at h
  | cons x xs ih =>
    intro ps qs h
    cases qs with
    | nil => simp at h
    | cons q qs =>
      have := ih (ps ++ [x]) qs (by simpa using h)
      rw [over]
      simp only [List.length_append, List.length_cons, List.length_nil, Nat.zero_add, List.append_assoc, List.cons_append, List.nil_append] at this
      rw [← this]
      congr 1
      simp
theorem over_all (xs vs : List Value) (h : vs.length = xs.length) : over vs 0 xs = xs := by
  have := over_app xs [] vs h
  simpa using this

/-- A struct whose cells are not known one by one, stored over a block. -/
theorem store_run {w : World} {b : Nat} {t : TypeId} {vs : List Value} (hS : Bk w b t vs) (A : Array Value) (hl : A.size = vs.length) (h1 : ∀ v ∈ A.toList, v.oneCell' = true) :
    ∃ w', (storeCells ⟨b, 0, none⟩ A.toList).run Tryz.prog w = .ok () w' ∧ Bk w' b t A.toList ∧ Oth b w w' := by
  have ht := hS.there 0 vs.length (by omega)
  have hr := run_storeCells_cells (P := Tryz.prog) b 0 A.toList 0 w (fun j hj => by have := (ht j (by rw [← hl]; simpa using hj)).1; simpa using this) (fun j hj => by have := (ht j (by rw [← hl]; simpa using hj)).2; simpa using this) h1
  obtain ⟨h2, h3⟩ := hS.sets A.toList 0
  rw [over_all _ _ (by simpa using hl.symm)] at h2
  exact ⟨_, hr, h2, h3⟩

theorem elv2 {w : World} {A : Nat → Prop} {g : Nat} {a b : Ex} {va vb : List Value} {t : TypeId} (hg : A g) (hk : Bk w g t (va ++ vb)) (ha : ExW w A a va) (hb : ExW w A b vb) : ElW w A (some ⟨g, 0, none⟩) [a, b] := by
  refine .cons hg (hk.rng 0 va fun j v hv => ?_) ha (.cons hg (hk.rng (0 + 7) vb fun j v hv => ?_) hb .nil)
  · have := (List.getElem?_eq_some_iff.1 hv).1
    rw [Nat.zero_add, List.getElem?_append_left this]; exact hv
  · rw [List.getElem?_append_right (by rw [ha.len]; omega), ha.len, show 0 + 7 + j - 7 = j by omega]; exact hv
theorem elv1 {w : World} {A : Nat → Prop} {g : Nat} {a : Ex} {va : List Value} {t : TypeId} (hg : A g) (hk : Bk w g t va) (ha : ExW w A a va) : ElW w A (some ⟨g, 0, none⟩) [a] := by
  refine .cons hg (hk.rng 0 va fun j v hv => ?_) ha .nil
  rw [Nat.zero_add]; exact hv
theorem elv3 {w : World} {A : Nat → Prop} {g : Nat} {a b c : Ex} {va vb vc : List Value} {t : TypeId} (hg : A g) (hk : Bk w g t (va ++ vb ++ vc)) (ha : ExW w A a va) (hb : ExW w A b vb) (hc : ExW w A c vc) : ElW w A (some ⟨g, 0, none⟩) [a, b, c] := by
  have la := ha.len
  have lb := hb.len
  refine .cons hg (hk.rng 0 va fun j v hv => ?_) ha (.cons hg (hk.rng (0 + 7) vb fun j v hv => ?_) hb (.cons hg (hk.rng (0 + 7 + 7) vc fun j v hv => ?_) hc .nil))
  · have := (List.getElem?_eq_some_iff.1 hv).1
    rw [Nat.zero_add, List.append_assoc, List.getElem?_append_left this]; exact hv
  · have := (List.getElem?_eq_some_iff.1 hv).1
    rw [List.append_assoc, List.getElem?_append_right (by omega), la, show 0 + 7 + j - 7 = j by omega, List.getElem?_append_left this]; exact hv
  · rw [List.getElem?_append_right (by rw [List.length_append]; omega), List.length_append, la, lb, show 0 + 7 + 7 + j - (7 + 7) = j by omega]; exact hv

theorem exv_mk {w : World} {A : Nat → Prop} {op : Int} {name tail : List UInt8} {ty : Int} {xs : List Ex} {pos : Nat} {ao : Option Addr} {c n : Nat} (h : ElW w A ao xs) (hn : n = xs.length) :
    ExW w A (.mk op name tail ty 0 0 xs pos) [.int .i64 op, .string (bs name), .string (bs tail), .int .i64 ty, .complex .f64 0 0, .slice ao n c, .int .i64 pos] := by
  have := ExW.mk (op := op) (name := name) (tail := tail) (ty := ty) (p := 0) (q := 0) (pos := pos) (c := c) h
  rw [fl_zero] at this
  rw [hn]
  exact this

set_option maxHeartbeats 2000000 in
theorem both_any (op : Int) (m : Mk) (a b : Ex) (va vb : List Value) (A : Nat → Prop) (w : World) (ha : ExW w A a va) (hb : ExW w A b vb) (hB : ∀ b, w.heap.size ≤ b → A b) :
    Calls Tryz.prog 88 #[.int .i64 op, mkV m, .agg va.toArray, .agg vb.toArray] w fun e w' => BoEnd A w (two op a b m) e w' := by
  obtain ⟨x0, x1, x2, x3, x4, x5, x6, rfl⟩ := list7 ha.len
  obtain ⟨y0, y1, y2, y3, y4, y5, y6, rfl⟩ := list7 hb.len
  have HA : Hid (ExW w A a _) := ha
  have HB : Hid (ExW w A b _) := hb
  clear ha hb
  have hcx := store_cx
  unfold mkV
  go_enter Tryz.func88, Tryz.ntmps88
  go_wp2
  have hbe := fun o1 o2 o3 o4 o5 => below_n o5 (below_n o4 (below_n o3 (below_n o2 (below_alloc w o1))))
  refine bodyPost_ret (v := .agg #[.int .i64 op, .string ⟨#[]⟩, .string ⟨#[]⟩, .int .i64 0, .complex .f64 0 0, .slice (some ⟨w.heap.size + 1 + 1 + 1 + 1, 0, none⟩) 2 2, .int .i64 m.at_]) (by simp [results, Tryz.results88, go_sem]) rfl ⟨_, rfl, rfl, ?_, hbe _ _ _ _ _⟩
  exact exv_mk (xs := [a, b]) (elv2 (hB _ (by omega)) (Bk.newAt 50 #[x0, x1, x2, x3, x4, x5, x6, y0, y1, y2, y3, y4, y5, y6] (by simp)) (ExW.up (show ExW w A a _ from HA) (hbe _ _ _ _ _)) (ExW.up (show ExW w A b _ from HB) (hbe _ _ _ _ _))) rfl
end Go.Proofs.YtkonkplalgoekaaGreatDoor
