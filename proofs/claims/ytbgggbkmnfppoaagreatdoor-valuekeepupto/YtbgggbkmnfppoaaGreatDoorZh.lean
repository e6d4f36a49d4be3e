/-
  Memory of ValueKeep: rows of numbers appended; what is written into one answer leaves the other.
-/
import Derived.Test.YtbgggbkmnfppoaaGreatDoorZg
namespace Go.Proofs.YtbgggbkmnfppoaaGreatDoor
open Go.RowKit
set_option maxRecDepth 100000

/-- Numbers appended to numbers of the call's own. -/
theorem own_appZ (w : World) (B : Nat) (v : Value) (xs : List Wz) (h : OwZ w B v xs) (hB : B ≤ w.heap.size) (a : Addr) (cap : Nat) (ys : List Wz) (hy : ∀ t, t < ys.length → w.cell? (a.add t) = some (cx (ys.getD t (0, 0)))) (hxy : xs.length + ys.length ≤ 8796093022208) :
    ∃ v' w', (Builtin.append_ #[33, 33] 33 #[v, .slice (some a) ys.length cap]).run Tryz.prog w = .ok v' w' ∧ OwZ w' B v' (xs ++ ys) ∧ Below B w w' := by
  obtain ⟨i0, hi, hz⟩ := Option.map_eq_some_iff.1 Tryz.infoZ
  simp only [Prod.mk.injEq] at hz
  have hnews : ∀ j u, (ys.map cx)[j]? = some u → w.cell? (a.add j) = some u := by
    intro j u hj
    rw [List.getElem?_map] at hj
    cases hq : ys[j]? with
    | none => rw [hq] at hj; cases hj
    | some x =>
      rw [hq] at hj
      simp only [Option.map_some, Option.some.injEq] at hj
      subst hj
      have hl : j < ys.length := (List.getElem?_eq_some_iff.1 hq).1
      rw [hy j hl, List.getD_eq_getElem?_getD, hq]
      rfl
  obtain ⟨v', w', hr, ho, hgr, _⟩ := run_append_own (P := Tryz.prog) w B 33 33 32 i0 (.complex .f64 0 0) 1 16 Tryz.underZs hi hz.1 hz.2.1 hz.2.2 rfl (by decide) v xs.length _ h a ys.length cap (ys.map cx) (by simp) hnews
    (by intro u hu; rw [List.mem_map] at hu; obtain ⟨c, _, rfl⟩ := hu; rfl) (by unfold maxLen; omega) (by omega) hB
  refine ⟨v', w', hr, ?_, (Below.refl B w).grown hgr hB (owns_low h)⟩
  unfold OwZ
  rw [List.length_append, List.map_append]
  exact ho
theorem own_appN (w : World) (B : Nat) (v : Value) (xs : List Wz) (h : OwZ w B v xs) : (Builtin.append_ #[33, 33] 33 #[v, .slice none 0 0]).run Tryz.prog w = .ok v w := by
  obtain ⟨i0, hi, hz⟩ := Option.map_eq_some_iff.1 Tryz.infoZ
  exact run_append_owned_none (P := Tryz.prog) (w := w) B 33 33 32 i0 1 Tryz.underZs hi v xs.length _ h
/-- .. whatever slice they lie in. -/
theorem own_appO (w : World) (B C : Nat) (v : Value) (xs : List Wz) (h : OwZ w B v xs) (hB : B ≤ w.heap.size) (ao : Option Addr) (cap : Nat) (ys : List Wz) (hy : OwZ w C (.slice ao ys.length cap) ys) (hxy : xs.length + ys.length ≤ 8796093022208) :
    ∃ v' w', (Builtin.append_ #[33, 33] 33 #[v, .slice ao ys.length cap]).run Tryz.prog w = .ok v' w' ∧ OwZ w' B v' (xs ++ ys) ∧ Below B w w' := by
  rcases hy.2 with ⟨e, h0⟩ | ⟨g, c, cur, e, _⟩
  · have e2 := List.length_eq_zero_iff.1 h0
    subst e2
    simp only [Value.slice.injEq] at e
    obtain ⟨rfl, _, rfl⟩ := e
    refine ⟨v, w, own_appN w B v xs h, ?_, Below.refl _ _⟩
    rw [List.append_nil]
    exact h
  · simp only [Value.slice.injEq] at e
    obtain ⟨rfl, _, rfl⟩ := e
    refine own_appZ w B v xs h hB ⟨g, 0, none⟩ cap ys (fun t ht => ?_) hxy
    have := hy.cells (g := g) rfl t (cx (ys.getD t (0, 0))) (by rw [List.getElem?_map, List.getElem?_eq_getElem ht, List.getD_eq_getElem?_getD, List.getElem?_eq_getElem ht]; rfl)
    exact this

theorem run_slice_hiZ (ao : Option Addr) (len cap n : Nat) (h : n ≤ cap) (w : World) (b : Nat) (e : ao = some ⟨b, 0, none⟩) : (Instr.slice 33 (.slice ao len cap) none (some (.int .i64 (n : Int))) none).run Tryz.prog w = .ok (.slice ao n cap) w := by
  subst e
  simp [Instr.slice, Instr.sliceBounds, Instr.sliceBound, asIntOf, h, run_underlying Tryz.underZs, go_sem]

/-- Writing into rows of numbers of one answer (blocks from P up to Q), and new memory. -/
structure Ph (P Q : Nat) (w wx : World) : Prop where
  os : wx.os = w.os
  tape : wx.tape = w.tape
  output : wx.output = w.output
  size : w.heap.size ≤ wx.heap.size
  keep : ∀ k, k < w.heap.size → (k < P ∨ Q ≤ k) → wx.heap[k]? = w.heap[k]?
  shape : ∀ k vs, k < Q → Bk w k 32 vs → ∃ vs', Bk wx k 32 vs' ∧ vs'.length = vs.length
theorem Ph.refl (P Q : Nat) (w : World) : Ph P Q w w := ⟨rfl, rfl, rfl, Nat.le_refl _, fun _ _ _ => rfl, fun _ vs _ h => ⟨vs, h, rfl⟩⟩
theorem Ph.below {P Q B : Nat} {w wx : World} (h : Ph P Q w wx) (hB : B ≤ P) (hs : B ≤ w.heap.size) : Below B w wx := ⟨h.os, h.tape, h.output, h.size, fun k hk => h.keep k (by omega) (.inl (by omega))⟩
theorem Ph.up {P Q : Nat} {w wx wy : World} (h : Ph P Q w wx) (hb : Below wx.heap.size wx wy) : Ph P Q w wy :=
  ⟨hb.os.trans h.os, hb.tape.trans h.tape, hb.output.trans h.output, Nat.le_trans h.size hb.size, fun k hk hr => (hb.block k (by have := h.size; omega)).trans (h.keep k hk hr),
    fun k vs hk hv => by obtain ⟨vs', h1, h2⟩ := h.shape k vs hk hv; exact ⟨vs', h1.up hb, h2⟩⟩
/-- A store into a row of numbers. -/
theorem Ph.num {P Q g j : Nat} {w wx : World} {vs : List Value} (h : Ph P Q w wx) (h1 : P ≤ g) (h2 : g < Q) (hg : Bk wx g 32 vs) (v : Value) : Ph P Q w (wx.setCell ⟨g, j, none⟩ v) := by
  have ho := (Oth.refl g wx).set j v
  have hb := ho.below (Nat.le_refl g)
  refine ⟨hb.os.trans h.os, hb.tape.trans h.tape, hb.output.trans h.output, Nat.le_trans h.size hb.size, fun k hk hr => ?_, fun k us hk hu => ?_⟩
  · rw [ho.block k (by omega)]; exact h.keep k hk hr
  · obtain ⟨us', h3, h4⟩ := h.shape k us hk hu
    by_cases hkg : k = g
    · subst hkg
      have e : us' = vs := by
        unfold Bk at h3 hg
        rw [h3] at hg
        simpa using hg
      subst e
      exact ⟨_, h3.set j v, by rw [List.length_set]; exact h4⟩
    · exact ⟨us', h3.oth ho hkg, h4⟩
/-- A store into a row of values. -/
theorem Ph.val {P Q g j : Nat} {w wx : World} {vs : List Value} (h : Ph P Q w wx) (h1 : P ≤ g) (h2 : g < Q) (hg : Bk wx g 35 vs) (v : Value) : Ph P Q w (wx.setCell ⟨g, j, none⟩ v) := by
  have ho := (Oth.refl g wx).set j v
  have hb := ho.below (Nat.le_refl g)
  refine ⟨hb.os.trans h.os, hb.tape.trans h.tape, hb.output.trans h.output, Nat.le_trans h.size hb.size, fun k hk hr => ?_, fun k us hk hu => ?_⟩
  · rw [ho.block k (by omega)]; exact h.keep k hk hr
  · obtain ⟨us', h3, h4⟩ := h.shape k us hk hu
    have hkg : k ≠ g := by
      intro e
      subst e
      unfold Bk at h3 hg
      rw [h3] at hg
      simp at hg
    exact ⟨us', h3.oth ho hkg, h4⟩
/-- A list of the first answer, as it now lies. -/
theorem Ph.row {P Q n : Nat} {w wx : World} {v : Value} {xs : List Value} (h : Ph P Q w wx) (hv : w.ownsRow P 32 1 v n xs) (hQ : ∀ k, v.ownBlock = some k → k < Q) :
    (v = .slice none 0 0 ∧ n = 0) ∨ ∃ g cap vs, v = .slice (some ⟨g, 0, none⟩) n cap ∧ P ≤ g ∧ g < Q ∧ n ≤ cap ∧ cap ≤ maxLen ∧ vs.length = cap ∧ Bk wx g 32 vs := by
  rcases hv.2 with h0 | ⟨g, cap, cur, rfl, h1, h2, h3, h4, h5, _⟩
  · exact .inl h0
  · have hg : g < Q := hQ g rfl
    obtain ⟨vs', h6, h7⟩ := h.shape g cur.toList hg h2
    exact .inr ⟨g, cap, vs', rfl, h1, hg, h3, h4, by rw [h7, Array.length_toList, h5]; omega, h6⟩
/-- One number more in such a list. -/
theorem Ph.app {P Q n : Nat} {w wx : World} {v : Value} {xs : List Value} (z : Wz) (h : Ph P Q w wx) (hv : w.ownsRow P 32 1 v n xs) (hQ : ∀ k, v.ownBlock = some k → k < Q) (hn : n ≤ 5864062014806) :
    ∃ v' w', (Builtin.append_ #[33, 33] 33 #[v, .slice (some ⟨wx.heap.size, 0, none⟩) 1 1]).run Tryz.prog (wx.alloc (.cells #[.complex .f64 z.1 z.2] 32)) = .ok v' w' ∧ Ph P Q w w' ∧ (∀ b vs, Bk wx b 35 vs → Bk w' b 35 vs) ∧ ∃ ao cap, v' = .slice ao (n + 1) cap := by
  obtain ⟨i0, hi, hz⟩ := Option.map_eq_some_iff.1 Tryz.infoZ
  simp only [Prod.mk.injEq] at hz
  have hba := below_alloc wx (.cells #[.complex .f64 z.1 z.2] 32)
  have hPa := h.up hba
  have hnews : ∀ j u, [cx z][j]? = some u → (wx.alloc (.cells #[.complex .f64 z.1 z.2] 32)).cell? ((⟨wx.heap.size, 0, none⟩ : Addr).add j) = some u := by
    intro j u hj
    rw [Addr.add_mid, Nat.zero_add, (Bk.new wx 32 #[.complex .f64 z.1 z.2]).cell]
    exact hj
  have hone : ∀ u ∈ [cx z], u.oneCell' = true := by intro u hu; rw [List.mem_singleton.1 hu]; rfl
  generalize hW : wx.alloc (.cells #[.complex .f64 z.1 z.2] 32) = W at *
  have hs1 : i0.size = 1 := hz.2.1
  have hs2 : i0.bytes = 16 := hz.2.2
  rcases hPa.row hv hQ with ⟨rfl, rfl⟩ | ⟨g, cap, vs, rfl, h1, h2, h3, h4, h5, h6⟩
  · refine ⟨_, _, run_append_nil (P := Tryz.prog) W 33 33 32 i0 _ Tryz.underZs hi hz.1 ⟨wx.heap.size, 0, none⟩ 1 1 [cx z] (by rw [hs1]; rfl) hnews (by omega) (by omega) (by rw [hs2]; omega), ?_, ?_, _, _, rfl⟩
    · exact hPa.up (Below.alloc (Below.refl W.heap.size W).drew (Nat.le_refl _) _)
    · intro b us hb
      exact (hb.up hba).up (Below.alloc (Below.refl W.heap.size W).drew (Nat.le_refl _) _)
  · have hcl : ∀ j u, (vs.take n)[j]? = some u → W.cell? ((⟨g, 0, none⟩ : Addr).add j) = some u := by
      intro j u hj
      rw [Addr.add_mid, Nat.zero_add, h6.cell]
      rw [List.getElem?_take] at hj
      split at hj
      · exact hj
      · cases hj
    by_cases hroom : n + 1 ≤ cap
    · refine ⟨_, _, run_append_room (P := Tryz.prog) W 33 33 32 i0 Tryz.underZs hi g n cap vs.toArray h6 ⟨wx.heap.size, 0, none⟩ 1 1 [cx z] (by rw [hs1]; rfl) hnews hone hroom (by rw [hs1]; simp; omega), ?_, ?_, _, _, rfl⟩
      · refine ⟨hPa.os, hPa.tape, hPa.output, by rw [size_setRow]; exact hPa.size, fun k hk hr => ?_, fun k us hk hu => ?_⟩
        · rw [setRow_other _ _ _ _ (by omega)]; exact hPa.keep k hk hr
        · obtain ⟨us', h7, h8⟩ := hPa.shape k us hk hu
          by_cases hkg : k = g
          · subst hkg
            have e : us' = vs := by
              unfold Bk at h6 h7
              rw [h6] at h7
              simpa using h7.symm
            subst e
            refine ⟨_, setRow_heap W k _ _ _ _ h6, ?_⟩
            rw [← h8, hs1]
            simp
            omega
          · exact ⟨us', by unfold Bk; rw [setRow_other _ _ _ _ hkg]; exact h7, h8⟩
      · intro b us hb
        have hb2 := hb.up hba
        have hbg : b ≠ g := by
          intro e
          subst e
          unfold Bk at hb2 h6
          rw [hb2] at h6
          simp at h6
        unfold Bk
        rw [setRow_other _ _ _ _ hbg]
        exact hb2
    · refine ⟨_, _, run_append_grow (P := Tryz.prog) W 33 33 32 i0 _ Tryz.underZs hi hz.1 ⟨g, 0, none⟩ n cap (vs.take n) (by rw [hs1, List.length_take]; omega) hcl ⟨wx.heap.size, 0, none⟩ 1 1 [cx z] (by rw [hs1]; rfl) hnews (by omega) (by omega) (growslice_fits (by omega) (by rw [hs2]; omega)), ?_, ?_, _, _, rfl⟩
      · exact hPa.up (Below.alloc (Below.refl W.heap.size W).drew (Nat.le_refl _) _)
      · intro b us hb
        exact (hb.up hba).up (Below.alloc (Below.refl W.heap.size W).drew (Nat.le_refl _) _)
/-- The second answer stays. -/
theorem SR.ph {P Q : Nat} {w wx : World} {v : Value} {its : List It} (h : SR w Q v its) (hp : Ph P Q w wx) : SR wx Q v its := by
  have one : ∀ {e : TypeId} {k n : Nat} {u : Value} {xs : List Value}, w.ownsRow Q e k u n xs → wx.ownsRow Q e k u n xs := by
    intro e k n u xs ho
    refine ⟨ho.1, ?_⟩
    rcases ho.2 with h' | ⟨g, cap, cur, h1, h2, h3, h4⟩
    · exact .inl h'
    · exact .inr ⟨g, cap, cur, h1, h2, (hp.keep g (heap_lt h3) (.inr h2)).trans h3, h4⟩
  exact ⟨one h.row, fun i hi => ⟨(h.its i hi).ok, one (h.its i hi).own, (h.its i hi).n⟩⟩
end Go.Proofs.YtbgggbkmnfppoaaGreatDoor
