/-
  The reader in memory; the walks of next, take, giveUp, stands, pass, must, name, nameOf, typeWord.
-/
import Derived.Test.YtkonkplalgoekaaGreatDoorNa
import Derived.Test.YtkonkplalgoekaaGreatDoorGq
import Derived.RegionTactic
import Derived.Deep.RegionLaw
import Derived.BigQuiet
namespace Go.Proofs.YtkonkplalgoekaaGreatDoor
open Go.RowKit
set_option maxRecDepth 100000

/-- What a reader reads: where its marks lie, how many, which; its limits. -/
structure Rdi where
  b : Nat
  off : Nat
  cap : Nat
  n : Nat
  M : Nat → Mk
  lt : Int
  lf : Int
  la : Int
  ln : Int

/-- The reader lies in block R, at the mark k, d binders deep. -/
structure Rdr (I : Rdi) (w : World) (R k d : Nat) : Prop where
  blk : Bk w R 63 [.slice (some ⟨I.b, I.off, none⟩) I.n I.cap, .int .i64 k, .int .i64 I.lt, .int .i64 I.lf, .int .i64 I.la, .int .i64 I.ln, .int .i64 d]
  ms : ∀ t, t < I.n → M4 w I.b (I.off + t * 4) (I.M t)
  ne : I.b ≠ R
  kn : k < I.n
  dS : (d : Int) ≤ 9223372036854775807
  lnS : I.ln ≤ 9223372036854775807
  small : I.n ≤ 2000000

theorem Rdr.up {I : Rdi} {w w' : World} {R k d : Nat} (h : Rdr I w R k d) (hb : Below w.heap.size w w') : Rdr I w' R k d :=
  ⟨h.blk.up hb, fun t ht => (h.ms t ht).but (bel_but hb R) h.ne, h.ne, h.kn, h.dS, h.lnS, h.small⟩
theorem Rdr.oth {I : Rdi} {w w' : World} {R k d g : Nat} (h : Rdr I w R k d) (ho : Oth g w w') (hR : R < g) (hb : I.b < g) : Rdr I w' R k d := by
  refine ⟨h.blk.oth ho (by omega), fun t ht => ?_, h.ne, h.kn, h.dS, h.lnS, h.small⟩
  obtain ⟨m1, m2, m3, m4⟩ := h.ms t ht
  exact ⟨(ho.cell (by show I.b ≠ g; omega)).trans m1, (ho.cell (by show I.b ≠ g; omega)).trans m2, (ho.cell (by show I.b ≠ g; omega)).trans m3, (ho.cell (by show I.b ≠ g; omega)).trans m4⟩
theorem Rdr.lt {I : Rdi} {w : World} {R k d : Nat} (h : Rdr I w R k d) : R < w.heap.size ∧ I.b < w.heap.size := ⟨h.blk.lt, (h.ms k h.kn).lt⟩
/-- The place moved on. -/
theorem Rdr.go {I : Rdi} {w : World} {R k d : Nat} (h : Rdr I w R k d) (j : Nat) (hj : j < I.n) : Rdr I (w.setCell ⟨R, 1, none⟩ (.int .i64 j)) R j d := by
  refine ⟨h.blk.set 1 _, fun t ht => ?_, h.ne, hj, h.dS, h.lnS, h.small⟩
  exact (h.ms t ht).but ((But.refl R w).setR _) h.ne
/-- The nesting turned. -/
theorem Rdr.nest {I : Rdi} {w : World} {R k d : Nat} (h : Rdr I w R k d) (e : Nat) (he : (e : Int) ≤ 9223372036854775807) : Rdr I (w.setCell ⟨R, 6, none⟩ (.int .i64 e)) R k e := by
  refine ⟨h.blk.set 6 _, fun t ht => ?_, h.ne, h.kn, he, h.lnS, h.small⟩
  exact (h.ms t ht).but ((But.refl R w).setR _) h.ne

/-- A struct stored, as a step of a region that draws its order. -/
theorem step_storeN {ops : Array Oper} {o : Oper} {a : Act} {w : World} {K : Act → World → Prop} {Q : Exit → Act → World → Prop} {E : Prop} (hgd : o.guard = none) (ty : TypeId) (x y : Operand) (ho : o.op = .store ty x y)
    (b f : Nat) (xs : List Value) (hx : a.eval x = .pointer (some ⟨b, f, none⟩)) (hy : a.eval y = .agg xs.toArray) {t : TypeId} {vs : List Value} (hS : Bk w b t vs) (hl : f + xs.length ≤ vs.length)
    (hi : (Tryz.prog.info? ty).map (·.size) = some xs.length) (h1 : ∀ v ∈ xs, v.oneCell' = true)
    (h : ∀ w', Bk w' b t (over vs f xs) → Oth b w w' → K (a.put o.dst undef) w') : if Region.wanted o (yielded ops a.tmps) = true then Oper.wp Tryz.prog o a w K Q else E := by
  have hw : Region.wanted o (yielded ops a.tmps) = true := by simp [Region.wanted, hgd]
  rw [if_pos hw]
  refine wp_store_mid ty x y ho b f xs.toArray hx hy (by simpa using hS.there f xs.length hl) (by simpa using hi) (all_oneCell_toArray h1) ?_
  obtain ⟨h2, h3⟩ := hS.sets xs f
  exact h _ h2 h3

/-- A struct loaded, as a step of a region that draws its order. -/
theorem step_loadN {ops : Array Oper} {o : Oper} {a : Act} {w : World} {K : Act → World → Prop} {Q : Exit → Act → World → Prop} {E : Prop} (hgd : o.guard = none) (ty : TypeId) (x : Operand) (ho : o.op = .load ty x)
    (b f : Nat) (hx : a.eval x = .pointer (some ⟨b, f, none⟩)) (xs : List Value) (d : TypeDesc) (hS : w.rangeAt b f xs) (hu : Tryz.prog.underlying ty = some d) (hd : d.isRow = true) (hi : (Tryz.prog.info? ty).map (·.size) = some xs.length)
    (h : K (a.put o.dst (.agg xs.toArray)) w) : if Region.wanted o (yielded ops a.tmps) = true then Oper.wp Tryz.prog o a w K Q else E := by
  have hw : Region.wanted o (yielded ops a.tmps) = true := by simp [Region.wanted, hgd]
  rw [if_pos hw]
  exact wp_load_mid ty x ho b f hx xs d hS hu hd hi h

theorem mkC_one (m : Mk) : ∀ v ∈ mkC m, v.oneCell' = true := by
  intro v hv
  simp only [mkC, List.mem_cons, List.not_mem_nil, or_false] at hv
  rcases hv with rfl | rfl | rfl | rfl <;> rfl
theorem M4.range {w : World} {b o : Nat} {m : Mk} (h : M4 w b o m) : w.rangeAt b o (mkC m) := by
  obtain ⟨h1, h2, h3, h4⟩ := h
  intro j v hv
  match j, hv with
  | 0, hv => cases hv; exact h1
  | 1, hv => cases hv; exact h2
  | 2, hv => cases hv; exact h3
  | 3, hv => cases hv; exact h4

theorem store_cx (W : World) (a : Addr) (x y : Nat) : (store a (.complex .f64 x y)).run Tryz.prog W = match W.cell? a with
      | some _ => if W.frozen? a then .halt (.unsupported (.unsafePointer "a write to bytes that a string shares")) W else .ok () (W.setCell a (.complex .f64 x y))
      | none => match W.farStore Tryz.prog a (.complex .f64 x y) (Mode.plain == .atomic) with
        | .ok (w', _) => .ok () w'
        | .error h => .halt h W := run_store Tryz.prog W a (.complex .f64 x y) .plain rfl

set_option maxHeartbeats 1000000 in
theorem next_any (I : Rdi) (w : World) (R k d : Nat) (h : Rdr I w R k d) :
    Calls Tryz.prog 30 #[.pointer (some ⟨R, 0, none⟩)] w fun e w' => e = .returned (mkV (I.M k)) ∧ Below w.heap.size w w' := by
  have h2 := h.up (below_alloc w (.cells #[.int .i64 0, .string ⟨#[]⟩, .complex .f64 0 0, .int .i64 0] 42))
  have c0 := h2.blk.cell 0
  have c1 := h2.blk.cell 1
  simp only [List.getElem?_cons_zero, List.getElem?_cons_succ] at c0 c1
  obtain ⟨m1, m2, m3, m4⟩ := h2.ms k h.kn
  have hn := h.kn
  have hs := h.small
  have hcx := store_cx
  clear h h2
  go_enter Tryz.func30, Tryz.ntmps30
  go_wp2
  go_region
  go_wp2
  refine bodyPost_ret (v := mkV (I.M k)) (by simp [results, Tryz.results30, go_sem, mkV]) rfl ⟨rfl, (below_alloc _ _).drew⟩

/-- A struct of four cells, read cell by cell. -/
theorem Bk.four {w : World} {b : Nat} {t : TypeId} {x y z u : Value} (h : Bk w b t [x, y, z, u]) : w.cell? ⟨b, 0, none⟩ = some x ∧ w.cell? ⟨b, 1, none⟩ = some y ∧ w.cell? ⟨b, 2, none⟩ = some z ∧ w.cell? ⟨b, 3, none⟩ = some u :=
  ⟨h.cell 0, h.cell 1, h.cell 2, h.cell 3⟩
theorem over4 (a b c d : Value) (m : Mk) : over [a, b, c, d] 0 (mkC m) = mkC m := rfl

abbrev mz : Array Value := #[.int .i64 0, .string ⟨#[]⟩, .complex .f64 0 0, .int .i64 0]

theorem w64k (k : Nat) (h : k ≤ 2000000) : wrap64 ((k : Int) + 1) = ((k + 1 : Nat) : Int) := by simp only [wrap64]; omega

set_option maxHeartbeats 1000000 in
theorem take_any (I : Rdi) (w : World) (R k d : Nat) (h : Rdr I w R k d) (hk : k + 1 < I.n) :
    Calls Tryz.prog 83 #[.pointer (some ⟨R, 0, none⟩)] w fun e w' => e = .returned (mkV (I.M k)) ∧ Rdr I w' R (k + 1) d ∧ But R w w' := by
  have hB0 := Bk.new w 42 mz
  have h1 := h.up (below_alloc w (.cells mz 42))
  have hlt := h.lt
  have hw := w64k k (by have := h.small; omega)
  go_enter Tryz.func83, Tryz.ntmps83
  go_wp2_with (first
    | (go_at_call 30; refine (next_any I _ R k d h1).mono ?_; rintro e w1 ⟨rfl, hb1⟩; have h2 := h1.up hb1; have hB1 := hB0.up hb1; have hL := Bk.new w1 42 mz; have h3 := h2.up (below_alloc w1 (.cells mz 42)); have hB2 := hB1.alloc (.cells mz 42); have hs1 := hb1.size; have hl1 := hB1.lt; have hU := But.then (bel_but (Below.thn (below_alloc w (.cells mz 42)) hb1) R) (below_alloc w1 (.cells mz 42)); clear hb1)
    | (refine wpList_storeN rfl 42 (.tmp 3) (.tmp 5) rfl w1.heap.size 0 (mkC (I.M k)) rfl rfl hL (Nat.le_refl 4) Tryz.infoM (mkC_one _) ?_; intro w2 hL2 ho2; have h4 := h3.oth ho2 (by have := h2.lt; omega) (by have := h2.lt; omega); have hB3 := hB2.oth ho2 (by omega); have hU2 := ho2.but hU (by have := (below_alloc w (.cells mz 42)).size; omega); have c1 := h4.blk.cell 1; have f1 := h4.blk.frz 1; simp only [List.getElem?_cons_zero, List.getElem?_cons_succ] at c1; have h5 := h4.go (k + 1) hk; have hB4 := hB3.but ((But.refl R w2).setR (j := 1) (.int .i64 ((k + 1 : Nat) : Int))) (by omega); have hL3 := hL2.but ((But.refl R w2).setR (j := 1) (.int .i64 ((k + 1 : Nat) : Int))) (by have := h2.lt; omega); have hU3 := hU2.setR (j := 1) (.int .i64 ((k + 1 : Nat) : Int)))
    | refine wpList_loadN rfl 42 (.tmp 3) rfl w1.heap.size 0 rfl (mkC (I.M k)) _ (hL3.range 0 4) Tryz.underM Tryz.infoM ?_
    | (refine wpList_storeN rfl 42 (.tmp 2) (.tmp 13) rfl w.heap.size 0 (mkC (I.M k)) rfl rfl hB4 (Nat.le_refl 4) Tryz.infoM (mkC_one _) ?_; intro w4 hB5 ho4; have h6 := h5.oth ho4 (by omega) (by omega); have hU4 := ho4.but hU3 (Nat.le_refl _); obtain ⟨q0, q1, q2, q3⟩ := Bk.four (show Bk w4 w.heap.size _ [_, _, _, _] from hB5)))
  refine bodyPost_ret (v := mkV (I.M k)) (by simp [results, Tryz.results83, go_sem, mkV, q0, q1, q2, q3]) rfl ⟨rfl, h6, hU4⟩
end Go.Proofs.YtkonkplalgoekaaGreatDoor
