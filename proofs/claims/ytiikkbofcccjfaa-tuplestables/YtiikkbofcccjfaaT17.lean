/-
  The law's copy of a table.
-/
import Derived.Test.YtiikkbofcccjfaaT16
import Derived.ArgAppend
import Derived.Deep.Cut
namespace Go.Proofs.Ytiikkbofcccjfaa
open Go.RowKit
open Go.Lib
open RowsM
set_option maxRecDepth 100000

/-- Members appended to an empty row. -/
theorem app_types (w : World) (g : Nat) (ao : Option Addr) (cap : Nat) (xs : List Int) (hg : w.heap[g]? = some (.cells #[] 38 (0, 0))) (h : Iz w ao xs) (hl : xs.length ≤ 17592186043904) (hcap : ao = none → cap = 0) :
    ∃ so c w', (Builtin.append_ #[22, 22] 22 #[.slice (some ⟨g, 0, none⟩) 0 0, .slice ao xs.length cap]).run Try.prog w = .ok (.slice so xs.length c) w' ∧ Iz w' so xs ∧ (so = none → c = 0) ∧ Below w.heap.size w w' ∧ (xs ≠ [] → ∀ b off, so = some ⟨b, off, none⟩ → w.heap.size ≤ b) := by
  obtain ⟨i0, hi, hz0, hz1, hz2⟩ := info_parts Try.infoT
  have hown : w.ownsRow 0 38 1 (.slice (some ⟨g, 0, none⟩) 0 0) 0 [] := ⟨rfl, .inr ⟨g, 0, #[], rfl, Nat.zero_le _, hg, Nat.le_refl _, by unfold maxLen; omega, rfl, rfl⟩⟩
  by_cases hz : xs = []
  · subst hz
    cases ao with
    | none =>
      have hc0 := hcap rfl
      subst hc0
      exact ⟨some ⟨g, 0, none⟩, 0, w, run_append_owned_none (P := Try.prog) (w := w) 0 22 22 38 i0 1 Try.underT hi _ 0 [] hown, Iz.nil _ _, fun h => (by cases h), Below.refl _ _, fun h => absurd rfl h⟩
    | some a =>
      have hr := run_append_room_cells (P := Try.prog) (w := w) 22 22 38 i0 Try.underT hi g 0 0 0 a 0 cap [] (by simp) (by simp) (by simp) (by simp) (by simp) (by simp)
      exact ⟨some ⟨g, 0, none⟩, 0, w, hr, Iz.nil _ _, fun h => (by cases h), Below.refl _ _, fun h => absurd rfl h⟩
  · have hlp := List.length_pos_iff.2 hz
    obtain ⟨b, off, rfl, hc⟩ := h hz
    have hnews : ∀ j u, (xs.map fun z => Value.int .i64 z)[j]? = some u → w.cell? ((⟨b, off, none⟩ : Addr).add j) = some u := by
      intro j u hj
      rw [List.getElem?_map] at hj
      cases hq : xs[j]? with
      | none => rw [hq] at hj; cases hj
      | some x =>
        rw [hq] at hj
        simp only [Option.map_some, Option.some.injEq] at hj
        subst hj
        have hjl : j < xs.length := (List.getElem?_eq_some_iff.1 hq).1
        rw [Addr.add_lit, hc j hjl, List.getD_eq_getElem?_getD, hq]
        rfl
    obtain ⟨v', w', hr, ho, hgr⟩ := run_append_arg_grows (P := Try.prog) (w := w) 22 22 38 i0 (.int .i64 0) 1 8 Try.underT hi hz0 hz1 hz2 rfl (by decide) ⟨g, 0, none⟩ 0 0 [] (by simp) (by simp) ⟨b, off, none⟩ xs.length cap (xs.map fun z => Value.int .i64 z) (by simp) hnews (by omega) (by unfold maxLen; omega) (by omega)
    rw [Nat.zero_add, List.nil_append] at ho
    have hb := (Below.refl w.heap.size w).grown hgr (Nat.le_refl _) (by intro k hk; cases hk)
    obtain ⟨so, c, rfl, hiz, _, hp⟩ := own_iz ho rfl
    obtain ⟨g', rfl, hgg⟩ := hp hz
    exact ⟨some ⟨g', 0, none⟩, c, w', hr, hiz, fun h => (by cases h), hb, fun _ b off e => by simp only [Option.some.injEq, Addr.mk.injEq] at e; omega⟩
/-- Members appended to an empty row. -/
theorem app_words (w : World) (g : Nat) (ao : Option Addr) (cap : Nat) (xs : List Nat) (hg : w.heap[g]? = some (.cells #[] 68 (0, 0))) (h : Rd w ao xs) (hl : xs.length ≤ 17592186043904) (hcap : ao = none → cap = 0) :
    ∃ so c w', (Builtin.append_ #[39, 39] 39 #[.slice (some ⟨g, 0, none⟩) 0 0, .slice ao xs.length cap]).run Try.prog w = .ok (.slice so xs.length c) w' ∧ Rd w' so xs ∧ (so = none → c = 0) ∧ Below w.heap.size w w' ∧ (xs ≠ [] → ∀ b off, so = some ⟨b, off, none⟩ → w.heap.size ≤ b) := by
  obtain ⟨i0, hi, hz0, hz1, hz2⟩ := info_parts Try.infoW
  have hown : w.ownsRow 0 68 1 (.slice (some ⟨g, 0, none⟩) 0 0) 0 [] := ⟨rfl, .inr ⟨g, 0, #[], rfl, Nat.zero_le _, hg, Nat.le_refl _, by unfold maxLen; omega, rfl, rfl⟩⟩
  by_cases hz : xs = []
  · subst hz
    cases ao with
    | none =>
      have hc0 := hcap rfl
      subst hc0
      exact ⟨some ⟨g, 0, none⟩, 0, w, run_append_owned_none (P := Try.prog) (w := w) 0 39 39 68 i0 1 Try.underS hi _ 0 [] hown, Rd.nil _ _, fun h => (by cases h), Below.refl _ _, fun h => absurd rfl h⟩
    | some a =>
      have hr := run_append_room_cells (P := Try.prog) (w := w) 39 39 68 i0 Try.underS hi g 0 0 0 a 0 cap [] (by simp) (by simp) (by simp) (by simp) (by simp) (by simp)
      exact ⟨some ⟨g, 0, none⟩, 0, w, hr, Rd.nil _ _, fun h => (by cases h), Below.refl _ _, fun h => absurd rfl h⟩
  · have hlp := List.length_pos_iff.2 hz
    obtain ⟨b, off, rfl, hc⟩ := h.pl hz
    have hnews : ∀ j u, (xs.map fun z => Value.int .u64 (z : Nat))[j]? = some u → w.cell? ((⟨b, off, none⟩ : Addr).add j) = some u := by
      intro j u hj
      rw [List.getElem?_map] at hj
      cases hq : xs[j]? with
      | none => rw [hq] at hj; cases hj
      | some x =>
        rw [hq] at hj
        simp only [Option.map_some, Option.some.injEq] at hj
        subst hj
        have hjl : j < xs.length := (List.getElem?_eq_some_iff.1 hq).1
        rw [Addr.add_lit, hc j hjl, List.getD_eq_getElem?_getD, hq]
        rfl
    obtain ⟨v', w', hr, ho, hgr⟩ := run_append_arg_grows (P := Try.prog) (w := w) 39 39 68 i0 (.int .u64 0) 1 8 Try.underS hi hz0 hz1 hz2 rfl (by decide) ⟨g, 0, none⟩ 0 0 [] (by simp) (by simp) ⟨b, off, none⟩ xs.length cap (xs.map fun z => Value.int .u64 (z : Nat)) (by simp) hnews (by omega) (by unfold maxLen; omega) (by omega)
    rw [Nat.zero_add, List.nil_append] at ho
    have hb := (Below.refl w.heap.size w).grown hgr (Nat.le_refl _) (by intro k hk; cases hk)
    rcases ho.2 with ⟨_, h0⟩ | ⟨g', c, cur, rfl, hgg, hcur, hle, _, hcs, htake⟩
    · exact absurd (List.length_eq_zero_iff.1 h0) hz
    · refine ⟨some ⟨g', 0, none⟩, c, w', hr, ⟨h.lt, fun _ => ⟨g', 0, rfl, fun t ht => ?_⟩⟩, fun h => (by cases h), hb, fun _ b off e => by simp only [Option.some.injEq, Addr.mk.injEq] at e; omega⟩
      rw [Nat.zero_add, cell_of_row w' g' t _ _ _ hcur]
      have e : cur[t]? = (cur.toList.take (xs.length * 1))[t]? := by rw [List.getElem?_take, if_pos (by omega)]; simp
      rw [e, htake]
      simp [ht]
def cz0 : Oper := { dst := some 3, op := Op.buildSlice 22 0 #[], type := 22, pos := "law.go:39", after := #[], guard := none }
def cz1 : Oper := { dst := some 4, op := Op.fieldAddr 43 (Operand.tmp 1) 0, type := 0, pos := "law.go:39", after := #[], guard := none }
def cz2 : Oper := { dst := some 5, op := Op.load 22 (Operand.tmp 4), type := 22, pos := "law.go:39", after := #[{ on := 1, ground := Ground.data }], guard := none }
def cz3 : Oper := { dst := some 6, op := Op.call { callee := Callee.builtin Builtin.append, args := #[Operand.tmp 3, Operand.tmp 5], argTypes := #[22, 22] }, type := 22, pos := "law.go:39", after := #[{ on := 0, ground := Ground.data }, { on := 2, ground := Ground.data }], guard := none }
def cz4 : Oper := { dst := some 7, op := Op.fieldAddr 43 (Operand.tmp 1) 1, type := 0, pos := "law.go:39", after := #[], guard := none }
def cz5 : Oper := { dst := some 8, op := Op.load 38 (Operand.tmp 7), type := 38, pos := "law.go:39", after := #[{ on := 4, ground := Ground.data }], guard := none }
def cz6 : Oper := { dst := some 9, op := Op.fieldAddr 43 (Operand.tmp 1) 2, type := 0, pos := "law.go:39", after := #[], guard := none }
def cz7 : Oper := { dst := some 10, op := Op.fieldAddr 41 (Operand.tmp 9) 0, type := 0, pos := "law.go:39", after := #[{ on := 6, ground := Ground.data }], guard := none }
def cz8 : Oper := { dst := some 11, op := Op.load 3 (Operand.tmp 10), type := 3, pos := "law.go:39", after := #[{ on := 7, ground := Ground.data }], guard := none }
def cz9 : Oper := { dst := some 12, op := Op.buildSlice 39 0 #[], type := 39, pos := "law.go:39", after := #[], guard := none }
def cz10 : Oper := { dst := some 13, op := Op.fieldAddr 43 (Operand.tmp 1) 2, type := 0, pos := "law.go:39", after := #[], guard := none }
def cz11 : Oper := { dst := some 14, op := Op.fieldAddr 41 (Operand.tmp 13) 1, type := 0, pos := "law.go:39", after := #[{ on := 10, ground := Ground.data }], guard := none }
def cz12 : Oper := { dst := some 15, op := Op.load 39 (Operand.tmp 14), type := 39, pos := "law.go:39", after := #[{ on := 11, ground := Ground.data }], guard := none }
def cz13 : Oper := { dst := some 16, op := Op.call { callee := Callee.builtin Builtin.append, args := #[Operand.tmp 12, Operand.tmp 15], argTypes := #[39, 39] }, type := 39, pos := "law.go:39", after := #[{ on := 9, ground := Ground.data }, { on := 12, ground := Ground.data }, { on := 3, ground := Ground.chain }], guard := none }
def cz14 : Oper := { dst := some 17, op := Op.build 41 #[(0, Operand.tmp 11), (1, Operand.tmp 16)], type := 41, pos := "law.go:39", after := #[{ on := 8, ground := Ground.data }, { on := 13, ground := Ground.data }], guard := none }
def cz15 : Oper := { dst := some 18, op := Op.build 43 #[(0, Operand.tmp 6), (1, Operand.tmp 8), (2, Operand.tmp 17)], type := 43, pos := "law.go:39", after := #[{ on := 3, ground := Ground.data }, { on := 5, ground := Ground.data }, { on := 14, ground := Ground.data }], guard := none }
def cz16 : Oper := { dst := none, op := Op.store 43 (Operand.tmp 2) (Operand.tmp 18), type := 0, pos := "law.go:39", after := #[{ on := 15, ground := Ground.data }, { on := 13, ground := Ground.chain }, { on := 0, ground := Ground.phase }, { on := 1, ground := Ground.phase }, { on := 2, ground := Ground.phase }, { on := 3, ground := Ground.phase }, { on := 4, ground := Ground.phase }, { on := 5, ground := Ground.phase }, { on := 6, ground := Ground.phase }, { on := 7, ground := Ground.phase }, { on := 8, ground := Ground.phase }, { on := 9, ground := Ground.phase }, { on := 10, ground := Ground.phase }, { on := 11, ground := Ground.phase }, { on := 12, ground := Ground.phase }, { on := 13, ground := Ground.phase }, { on := 14, ground := Ground.phase }, { on := 15, ground := Ground.phase }], guard := none }
def czops : Array Oper := #[cz0, cz1, cz2, cz3, cz4, cz5, cz6, cz7, cz8, cz9, cz10, cz11, cz12, cz13, cz14, cz15, cz16]

/-- Words that read stay so when cells are written in a block that holds none of them. -/
theorem iz_set4 {w : World} {b : Nat} {so : Option Addr} {ks : List Int} (h : Iz w so ks) (hb : ks ≠ [] → ∀ g off, so = some ⟨g, off, none⟩ → b < g) (x y z u : Value) : Iz (set4 w b x y z u) so ks := by
  intro hn
  obtain ⟨g, off, e, hc⟩ := h hn
  refine ⟨g, off, e, fun t ht => ?_⟩
  have h1 := hc t ht
  simp only [World.cell?] at h1 ⊢
  rw [set4_heap _ _ _ _ _ _ (by have := hb hn g off e; omega)]
  exact h1
theorem s4_set4 {w : World} {b : Nat} {x y z u x' y' z' u' : Value} (h : S4 w b x y z u) : S4 (set4 w b x' y' z' u') b x' y' z' u' := by
  unfold set4 S4
  have h1 : (w.setCell ⟨b, 0, none⟩ x').heap[b]? = some (.cells #[x', y, z, u] 43 (0, 0)) := by rw [heap_setCell_same w b 0 _ _ _ h]; rfl
  have h2 : ((w.setCell ⟨b, 0, none⟩ x').setCell ⟨b, 1, none⟩ y').heap[b]? = some (.cells #[x', y', z, u] 43 (0, 0)) := by rw [heap_setCell_same _ b 1 _ _ _ h1]; rfl
  have h3 : (((w.setCell ⟨b, 0, none⟩ x').setCell ⟨b, 1, none⟩ y').setCell ⟨b, 2, none⟩ z').heap[b]? = some (.cells #[x', y', z', u] 43 (0, 0)) := by rw [heap_setCell_same _ b 2 _ _ _ h2]; rfl
  rw [heap_setCell_same _ b 3 _ _ _ h3]
  rfl

/-- What each operation of the copy's region comes to. -/
def czG (B Z : Nat) (ks : List Int) (t n : Int) (xs : List Nat) (ao bo : Option Addr) (ca cb : Nat) : Nat → Value → World → Prop
  | 0 => fun v w => ∃ g, v = .slice (some ⟨g, 0, none⟩) 0 0 ∧ w.heap[g]? = some (.cells #[] 38 (0, 0))
  | 1 => fun v _ => v = .pointer (some ⟨B, 0, none⟩)
  | 2 => fun v _ => v = .slice ao ks.length ca
  | 3 => fun v w => ∃ so c, v = .slice so ks.length c ∧ Iz w so ks ∧ (so = none → c = 0) ∧ (ks ≠ [] → ∀ b off, so = some ⟨b, off, none⟩ → Z ≤ b)
  | 4 => fun v _ => v = .pointer (some ⟨B, 1, none⟩)
  | 5 => fun v _ => v = .int .i64 t
  | 6 => fun v _ => v = .pointer (some ⟨B, 2, none⟩)
  | 7 => fun v _ => v = .pointer (some ⟨B, 2, none⟩)
  | 8 => fun v _ => v = .int .i64 n
  | 9 => fun v w => ∃ g, v = .slice (some ⟨g, 0, none⟩) 0 0 ∧ w.heap[g]? = some (.cells #[] 68 (0, 0))
  | 10 => fun v _ => v = .pointer (some ⟨B, 2, none⟩)
  | 11 => fun v _ => v = .pointer (some ⟨B, 3, none⟩)
  | 12 => fun v _ => v = .slice bo xs.length cb
  | 13 => fun v w => ∃ so c, v = .slice so xs.length c ∧ Rd w so xs ∧ (so = none → c = 0)
  | 14 => fun v w => ∃ so c, v = .agg #[.int .i64 n, .slice so xs.length c] ∧ Rd w so xs ∧ (so = none → c = 0)
  | _ => fun v w => ∃ po pc so c, v = .agg #[.slice po ks.length pc, .int .i64 t, .int .i64 n, .slice so xs.length c] ∧ Iz w po ks ∧ (po = none → pc = 0) ∧ (ks ≠ [] → ∀ b off, po = some ⟨b, off, none⟩ → Z ≤ b) ∧ Rd w so xs ∧ (so = none → c = 0)

theorem czG_up (B Z : Nat) (ks : List Int) (t n : Int) (xs : List Nat) (ao bo : Option Addr) (ca cb : Nat) (i : Nat) (v : Value) (w w' : World) (hb : Below w.heap.size w w') (h : czG B Z ks t n xs ao bo ca cb i v w) : czG B Z ks t n xs ao bo ca cb i v w' := by
  have hblk : ∀ (g : Nat) (o : Obj), w.heap[g]? = some o → w'.heap[g]? = some o := fun g o hg => by
    rw [hb.block g (by rcases Nat.lt_or_ge g w.heap.size with k | k; exact k; rw [Array.getElem?_eq_none k] at hg; cases hg)]
    exact hg
  rcases i with _ | _ | _ | _ | _ | _ | _ | _ | _ | _ | _ | _ | _ | _ | _ | i
  · obtain ⟨g, e, hg⟩ := h; exact ⟨g, e, hblk _ _ hg⟩
  · exact h
  · exact h
  · obtain ⟨so, c, e, hi, hn, hp⟩ := h; exact ⟨so, c, e, hi.up hb, hn, hp⟩
  · exact h
  · exact h
  · exact h
  · exact h
  · exact h
  · obtain ⟨g, e, hg⟩ := h; exact ⟨g, e, hblk _ _ hg⟩
  · exact h
  · exact h
  · exact h
  · obtain ⟨so, c, e, hi, hn⟩ := h; exact ⟨so, c, e, hi.up hb, hn⟩
  · obtain ⟨so, c, e, hi, hn⟩ := h; exact ⟨so, c, e, hi.up hb, hn⟩
  · obtain ⟨po, pc, so, c, e, hi, hn, hp, hr, hm⟩ := h; exact ⟨po, pc, so, c, e, hi.up hb, hn, hp, hr.up hb, hm⟩

section
variable {Q : Exit → Act → World → Prop} {X0 w0 : World} {a0 : Act}
set_option maxHeartbeats 4000000 in
theorem copy_region {B R : Nat} {ks : List Int} {t n : Int} {xs : List Nat} {ao bo : Option Addr} {ca cb : Nat} (K : World → Prop) (hc : ∀ w, Below X0.heap.size X0 w → S4 w B (.slice ao ks.length ca) (.int .i64 t) (.int .i64 n) (.slice bo xs.length cb)) (hr : ∀ w, Below X0.heap.size X0 w → S4 w R (.slice none 0 0) (.int .i64 0) (.int .i64 0) (.slice none 0 0))
    (hT : ∀ w, Below X0.heap.size X0 w → TbW w ks xs ao bo ca cb)
    (hK : ∀ w po pc so c, Below X0.heap.size X0 w → Iz w po ks → (po = none → pc = 0) → (ks ≠ [] → ∀ b off, po = some ⟨b, off, none⟩ → X0.heap.size ≤ b) → Rd w so xs → (so = none → c = 0) → K (set4 w R (.slice po ks.length pc) (.int .i64 t) (.int .i64 n) (.slice so xs.length c)))
    (hs : 19 ≤ a0.tmps.size) (e1 : Rv.ev a0 1 = .pointer (some ⟨B, 0, none⟩)) (e2 : Rv.ev a0 2 = .pointer (some ⟨R, 0, none⟩)) (hw : Below X0.heap.size X0 w0)
    (hQ : ∀ a w, Rv.Off 16 (fun k => k + 3) a0 a → K w → Q .normal a w) : wpAny Try.prog .any czops Q 17 (Array.replicate 17 false) a0 w0 := by
  refine Rv.relst (X0 := X0) 16 (fun k => k + 3) (czG B X0.heap.size ks t n xs ao bo ca cb) K (fun i v w w' hb h => czG_up _ _ _ _ _ _ _ _ _ _ i v w w' hb h) rfl (by decide) (by decide) (by decide) (fun j hj => Nat.lt_of_lt_of_le ((by decide : ∀ j, j < 16 → j + 3 < 19) j hj) hs) hw ?_ ?_ hQ
  · intro i a W hi hO hW hd
    have hev : ∀ j, a.eval (.tmp j) = Rv.ev a j := fun _ => rfl
    have g1 : Rv.ev a 1 = .pointer (some ⟨B, 0, none⟩) := (hO.same 1 (by decide)).trans e1
    obtain ⟨r0, r1, r2, r3⟩ := (hc W hW).cells
    have hTW := hT W hW
    have hB0 := Below.refl W.heap.size W
    have hN : i = 0 ∨ i = 1 ∨ i = 2 ∨ i = 3 ∨ i = 4 ∨ i = 5 ∨ i = 6 ∨ i = 7 ∨ i = 8 ∨ i = 9 ∨ i = 10 ∨ i = 11 ∨ i = 12 ∨ i = 13 ∨ i = 14 ∨ i = 15 := by omega
    rcases hN with rfl | rfl | rfl | rfl | rfl | rfl | rfl | rfl | rfl | rfl | rfl | rfl | rfl | rfl | rfl | rfl
    · exact Rv.rung (o := cz0) (w' := W.alloc (.cells #[] 38)) (v := .slice (some ⟨W.heap.size, 0, none⟩) 0 0) rfl rfl (Rv.want_free rfl) (by unfold cz0; simp only [execOp]; go_simp <;> rfl) ⟨_, rfl, heap_alloc_new W _⟩ (below_alloc _ _)
    · exact Rv.rung (o := cz1) rfl rfl (Rv.want_free rfl) (by unfold cz1; simp only [execOp, hev, g1]; go_simp <;> rfl) rfl hB0
    · have d4 : Rv.ev a 4 = .pointer (some ⟨B, 0, none⟩) := hd 1 (by decide)
      exact Rv.rung (o := cz2) (w' := W) (v := .slice ao ks.length ca) rfl rfl (Rv.want_free rfl) (by unfold cz2; simp only [execOp, hev, d4]; go_simp <;> rfl) rfl hB0
    · obtain ⟨g, d3, hg⟩ := hd 0 (by decide)
      have d5 : Rv.ev a 5 = .slice ao ks.length ca := hd 2 (by decide)
      replace d3 : Rv.ev a 3 = _ := d3
      obtain ⟨so, c, w', hrun, hiz, hn, hb, hp⟩ := app_types W g ao ca ks hg hTW.iz hTW.l1 hTW.c1
      have hsz := hW.size
      exact Rv.rung (o := cz3) rfl rfl (Rv.want_free rfl) (by unfold cz3; simp only [execOp, resolve, invoke, builtin, Sem.run_bind, Sem.run_pure, Result.andThen_ok, List.map_toArray, List.map_cons, List.map_nil, hev, d3, d5, hrun]) ⟨so, c, rfl, hiz, hn, fun h b off e => Nat.le_trans hsz (hp h b off e)⟩ hb
    · exact Rv.rung (o := cz4) rfl rfl (Rv.want_free rfl) (by unfold cz4; simp only [execOp, hev, g1]; go_simp <;> rfl) rfl hB0
    · have d7 : Rv.ev a 7 = .pointer (some ⟨B, 1, none⟩) := hd 4 (by decide)
      exact Rv.rung (o := cz5) (w' := W) (v := .int .i64 t) rfl rfl (Rv.want_free rfl) (by unfold cz5; simp only [execOp, hev, d7]; go_simp <;> rfl) rfl hB0
    · exact Rv.rung (o := cz6) rfl rfl (Rv.want_free rfl) (by unfold cz6; simp only [execOp, hev, g1]; go_simp <;> rfl) rfl hB0
    · have d9 : Rv.ev a 9 = .pointer (some ⟨B, 2, none⟩) := hd 6 (by decide)
      exact Rv.rung (o := cz7) rfl rfl (Rv.want_free rfl) (by unfold cz7; simp only [execOp, hev, d9]; go_simp <;> rfl) rfl hB0
    · have d10 : Rv.ev a 10 = .pointer (some ⟨B, 2, none⟩) := hd 7 (by decide)
      exact Rv.rung (o := cz8) (w' := W) (v := .int .i64 n) rfl rfl (Rv.want_free rfl) (by unfold cz8; simp only [execOp, hev, d10]; go_simp <;> rfl) rfl hB0
    · exact Rv.rung (o := cz9) (w' := W.alloc (.cells #[] 68)) (v := .slice (some ⟨W.heap.size, 0, none⟩) 0 0) rfl rfl (Rv.want_free rfl) (by unfold cz9; simp only [execOp]; go_simp <;> rfl) ⟨_, rfl, heap_alloc_new W _⟩ (below_alloc _ _)
    · exact Rv.rung (o := cz10) rfl rfl (Rv.want_free rfl) (by unfold cz10; simp only [execOp, hev, g1]; go_simp <;> rfl) rfl hB0
    · have d13 : Rv.ev a 13 = .pointer (some ⟨B, 2, none⟩) := hd 10 (by decide)
      exact Rv.rung (o := cz11) rfl rfl (Rv.want_free rfl) (by unfold cz11; simp only [execOp, hev, d13]; go_simp <;> rfl) rfl hB0
    · have d14 : Rv.ev a 14 = .pointer (some ⟨B, 3, none⟩) := hd 11 (by decide)
      exact Rv.rung (o := cz12) (w' := W) (v := .slice bo xs.length cb) rfl rfl (Rv.want_free rfl) (by unfold cz12; simp only [execOp, hev, d14]; go_simp <;> rfl) rfl hB0
    · obtain ⟨g, d12, hg⟩ := hd 9 (by decide)
      have d15 : Rv.ev a 15 = .slice bo xs.length cb := hd 12 (by decide)
      replace d12 : Rv.ev a 12 = _ := d12
      obtain ⟨so, c, w', hrun, hiz, hn, hb, hp⟩ := app_words W g bo cb xs hg hTW.rd hTW.l2 hTW.c2
      exact Rv.rung (o := cz13) rfl rfl (Rv.want_free rfl) (by unfold cz13; simp only [execOp, resolve, invoke, builtin, Sem.run_bind, Sem.run_pure, Result.andThen_ok, List.map_toArray, List.map_cons, List.map_nil, hev, d12, d15, hrun]) ⟨so, c, rfl, hiz, hn⟩ hb
    · have d11 : Rv.ev a 11 = .int .i64 n := hd 8 (by decide)
      obtain ⟨so, c, d16, hrd, hn⟩ := hd 13 (by decide)
      replace d16 : Rv.ev a 16 = _ := d16
      exact Rv.rung (o := cz14) rfl rfl (Rv.want_free rfl) (by unfold cz14; simp only [execOp, List.map_toArray, List.map_cons, List.map_nil, hev, d11, d16]; go_simp <;> rfl) ⟨so, c, rfl, hrd, hn⟩ hB0
    · obtain ⟨po, pc, d6, hiz, hn1, hp⟩ := hd 3 (by decide)
      have d8 : Rv.ev a 8 = .int .i64 t := hd 5 (by decide)
      obtain ⟨so, c, d17, hrd, hn⟩ := hd 14 (by decide)
      replace d6 : Rv.ev a 6 = _ := d6
      replace d17 : Rv.ev a 17 = _ := d17
      exact Rv.rung (o := cz15) rfl rfl (Rv.want_free rfl) (by unfold cz15; simp only [execOp, List.map_toArray, List.map_cons, List.map_nil, hev, d6, d8, d17]; go_simp <;> rfl) ⟨po, pc, so, c, rfl, hiz, hn1, hp, hrd, hn⟩ hB0
  · intro a W hO hW hg
    have hev : ∀ j, a.eval (.tmp j) = Rv.ev a j := fun _ => rfl
    have g2 : Rv.ev a 2 = .pointer (some ⟨R, 0, none⟩) := (hO.same 2 (by decide)).trans e2
    obtain ⟨po, pc, so, c, d18, hiz, hn1, hp, hrd, hn⟩ := hg 15 (by decide)
    replace d18 : Rv.ev a 18 = _ := d18
    obtain ⟨q0, q1, q2, q3⟩ := (hr W hW).free
    obtain ⟨u0, u1, u2, u3⟩ := (hr W hW).cells
    exact Rv.storeq (o := cz16) rfl rfl (Rv.want_free rfl) (by unfold cz16; simp only [execOp, hev, g2, d18]; go_simp <;> rfl) (hK W po pc so c hW hiz hn1 hp hrd hn)
end
end Go.Proofs.Ytiikkbofcccjfaa
