/-
  4 texts in one: what each proves stands at its head.
-/
import Derived.Test.YtkbglnhdbnijlaaUe
import Derived.Test.YtkbglnhdbnijlaaUjf
import Derived.Test.YtkbglnhdbnijlaaUp
import Derived.Test.YtkbglnhdbnijlaaUO
/-
  Regions that draw their order and hold quiet operations, one call and, behind all of these, a store. No dump.
-/
namespace Go.Proofs.Ytkbglnhdbnijlaa
open Go.RowKit
set_option maxRecDepth 100000

namespace Rv
theorem cs {P : Program} {ops : Array Oper} {Q : Exit → Act → World → Prop} {X0 : World} {a0 : Act} (N c : Nat) (slot : Nat → Nat) (V : Nat → Value) (G : Value → World → Prop) (K : World → Prop)
    (hN : ops.size = N + 1) (hlow : ∀ i, i < N + 1 → ∀ j ∈ deps ops i, j < i) (hall : ∀ j, j < N → j ∈ deps ops N ++ (deps ops N).flatMap (deps ops)) (hinj : ∀ i, i < N → ∀ j, j < N → j ≠ i → slot j ≠ slot i) (hsz : ∀ j, j < N → slot j < a0.tmps.size) (hc : c < N)
    (hG : ∀ v w, G v w → Below X0.heap.size X0 w)
    (hquiet : ∀ i a w, i < N → i ≠ c → Off N slot a0 a → Below X0.heap.size X0 w → (∀ j ∈ deps ops i, j ≠ c → ev a (slot j) = V j) → wpOp P ops Q i (fun a' w' => a' = a.put (some (slot i)) (V i) ∧ w' = w) a w)
    (hcall : ∀ a, Off N slot a0 a → (∀ j ∈ deps ops c, j ≠ c → ev a (slot j) = V j) → wpOp P ops Q c (fun a' w' => ∃ v, a' = a.put (some (slot c)) v ∧ G v w') a X0)
    (hstore : ∀ a w v, Off N slot a0 a → (∀ j, j < N → j ≠ c → ev a (slot j) = V j) → ev a (slot c) = v → G v w → wpOp P ops Q N (fun a' w' => a' = a ∧ K w') a w)
    (hQ : ∀ a w, Off N slot a0 a → K w → Q .normal a w) : wpAny P .any ops Q (N + 1) (Array.replicate (N + 1) false) a0 X0 := by
  refine wpAny_inv (fun l a w => l.size = N + 1 ∧ Off N slot a0 a ∧ (∀ j, j < N → j ≠ c → l.getD j false = true → ev a (slot j) = V j) ∧ (l.getD N false = true → ∀ j, j < N → l.getD j false = true) ∧ (∀ j, l.getD j false = true → ∀ k ∈ deps ops j, l.getD k false = true) ∧ ((l.getD N false = true ∧ K w) ∨ (l.getD N false = false ∧ l.getD c false = true ∧ ∃ v, ev a (slot c) = v ∧ G v w) ∨ (l.getD N false = false ∧ l.getD c false = false ∧ w = X0))) ?_ ?_ (N + 1) _ _ _ (by simp) ⟨by simp, ⟨rfl, rfl, fun _ _ => rfl⟩, ?_, ?_, ?_, .inr (.inr ⟨?_, ?_, rfl⟩)⟩
  · rintro l a w i hi ⟨hl, hO, hf, hd, hcl, hS⟩
    obtain ⟨hi1, hi2⟩ := ready_mem hi
    rw [hN] at hi2
    have hdn := deps_done hi
    have hi3 : l.getD i false = false := by
      have := (getD_true hi1).1
      simp [this] at hi1 ⊢
      exact hi1
    have hset : ∀ j, (l.setIfInBounds i true).getD j false = upd (fun j => l.getD j false) i j := congrFun (getD_set l i (by omega))
    have hne : ∀ j, j ≠ i → (l.setIfInBounds i true).getD j false = l.getD j false := fun j e => by rw [hset]; unfold upd; simp [e]
    have hii : (l.setIfInBounds i true).getD i false = true := by rw [hset]; unfold upd; simp
    have hls : (l.setIfInBounds i true).size = N + 1 := by simp [hl]
    have hcl' : ∀ j, (l.setIfInBounds i true).getD j false = true → ∀ k ∈ deps ops j, (l.setIfInBounds i true).getD k false = true := fun j hj k hk => by
      have h1 : l.getD k false = true := by
        by_cases e : j = i
        · subst e; exact hdn k hk
        · exact hcl j (by rw [← hne j e]; exact hj) k hk
      rw [hne k (fun e => by rw [e, hi3] at h1; cases h1)]
      exact h1
    by_cases hiN : i = N
    · subst hiN
      have hdone : ∀ j, j < i → l.getD j false = true := fun j hj => by
        rcases List.mem_append.1 (hall j hj) with h | h
        · exact hdn j h
        · obtain ⟨m, hm, hj'⟩ := List.mem_flatMap.1 h
          exact hcl m (hdn m hm) j hj'
      rcases hS with ⟨h, _⟩ | ⟨_, _, v, hv, hg⟩ | ⟨_, h, _⟩
      · rw [hi3] at h; cases h
      · refine wpOp_mono ?_ (hstore a w v hO (fun j hj hjc => hf j hj hjc (hdone j hj)) hv hg)
        rintro a' w' ⟨rfl, hK⟩
        exact ⟨hls, hO, fun j hj hjc hdj => hf j hj hjc (hdone j hj), fun _ j hj => by rw [hne j (by omega)]; exact hdone j hj, hcl', .inl ⟨hii, hK⟩⟩
      · rw [hdone c hc] at h; cases h
    · have hiN' : i < N := by omega
      have hNf : l.getD N false = false := by
        cases h : l.getD N false with
        | false => rfl
        | true => rw [hd h i hiN'] at hi3; cases hi3
      have hs : slot i < a.tmps.size := by rw [hO.size]; exact hsz i hiN'
      have hoff : ∀ v, Off N slot a0 (a.put (some (slot i)) v) := fun v => ⟨hO.def_, by rw [← hO.size]; simp [Act.put], fun k hk => by rw [ev_put a _ _ hs, if_neg (hk i hiN')]; exact hO.same k hk⟩
      have hkeep : ∀ v j, j < N → j ≠ i → ev (a.put (some (slot i)) v) (slot j) = ev a (slot j) := fun v j hj e => by rw [ev_put a _ _ hs, if_neg (hinj i hiN' j hj e)]
      have hnew : ∀ v, ev (a.put (some (slot i)) v) (slot i) = v := fun v => by rw [ev_put a _ _ hs, if_pos rfl]
      have hNf' : (l.setIfInBounds i true).getD N false = false := by rw [hne N (fun e => hiN e.symm)]; exact hNf
      by_cases hic : i = c
      · subst hic
        rcases hS with ⟨h, _⟩ | ⟨_, h, _⟩ | ⟨_, _, rfl⟩
        · rw [hNf] at h; cases h
        · rw [hi3] at h; cases h
        · refine wpOp_mono ?_ (hcall a hO fun j hj hjc => hf j (by have := hlow i (by omega) j hj; omega) hjc (hdn j hj))
          rintro a' w' ⟨v, rfl, hg⟩
          refine ⟨hls, hoff v, fun j hj hjc hdj => ?_, (fun h => by rw [hNf'] at h; cases h), hcl', .inr (.inl ⟨hNf', hii, v, hnew v, hg⟩)⟩
          rw [hkeep v j hj hjc]
          exact hf j hj hjc (by rw [← hne j hjc]; exact hdj)
      · have hB : Below X0.heap.size X0 w := by
          rcases hS with ⟨h, _⟩ | ⟨_, _, v, _, hg⟩ | ⟨_, _, rfl⟩
          · rw [hNf] at h; cases h
          · exact hG v w hg
          · exact Below.refl _ _
        refine wpOp_mono ?_ (hquiet i a w hiN' hic hO hB fun j hj hjc => hf j (by have := hlow i (by omega) j hj; omega) hjc (hdn j hj))
        rintro a' w' ⟨rfl, rfl⟩
        refine ⟨hls, hoff _, fun j hj hjc hdj => ?_, (fun h => by rw [hNf'] at h; cases h), hcl', ?_⟩
        · by_cases e : j = i
          · subst e; exact hnew _
          · rw [hkeep _ j hj e]
            exact hf j hj hjc (by rw [← hne j e]; exact hdj)
        · have hcd : (l.setIfInBounds i true).getD c false = l.getD c false := hne c (fun e => hic e.symm)
          rcases hS with ⟨h, _⟩ | ⟨_, h2, v, hv, hg⟩ | ⟨_, h2, rfl⟩
          · rw [hNf] at h; cases h
          · exact .inr (.inl ⟨hNf', by rw [hcd]; exact h2, v, by rw [hkeep _ c hc (fun e => hic e.symm)]; exact hv, hg⟩)
          · exact .inr (.inr ⟨hNf', by rw [hcd]; exact h2, rfl⟩)
  · rintro l a w hr ⟨hl, hO, hf, hd, hcl, hS⟩
    have := all_done (by omega) (by rw [hN]; exact hlow) hr
    rw [hN] at this
    rcases hS with ⟨_, hK⟩ | ⟨h, _⟩ | ⟨h, _⟩
    · exact hQ a w hO hK
    · rw [this N (by omega)] at h; cases h
    · rw [this N (by omega)] at h; cases h
  · intro j hj _ hd
    simp [show j < N + 1 by omega] at hd
  · intro h
    simp at h
  · intro j hj
    by_cases h : j < N + 1 <;> simp [h] at hj
  · simp
  · simp [show c < N + 1 by omega]

section
variable {P : Program} {ops : Array Oper} {Q : Exit → Act → World → Prop} {X0 : World} {i : Nat} {o : Oper} {a : Act} {w w' : World} {v : Value} {s : Nat}
theorem runq (ho : ops[i]? = some o) (hd : o.dst = some s) (hw : Region.wanted o (yielded ops a.tmps) = true) (hr : (execOp a.eval o).run P w = .ok (.value v) w) : wpOp P ops Q i (fun a' w' => a' = a.put (some s) v ∧ w' = w) a w := by
  refine wp ho hw ?_
  unfold Oper.wp
  rw [hr]
  show a.put o.dst v = _ ∧ _
  rw [hd]
  exact ⟨rfl, rfl⟩
theorem callq {f : Nat} {vs : Array Value} {G : Value → World → Prop} (ho : ops[i]? = some o) (hd : o.dst = some s) (hw : Region.wanted o (yielded ops a.tmps) = true) (hr : (execOp a.eval o).run P w = .ok (.enter f vs) w)
    (hc : Calls P f vs w fun e w' => ∃ v, e = .returned v ∧ G v w') : wpOp P ops Q i (fun a' w' => ∃ v, a' = a.put (some s) v ∧ G v w') a w := by
  refine wp ho hw ?_
  unfold Oper.wp
  rw [hr, Oper.upon_enter]
  refine hc.mono ?_
  rintro e w' ⟨v, rfl, hg⟩
  show ∃ v', a.put o.dst v = _ ∧ _
  rw [hd]
  exact ⟨v, rfl, hg⟩
theorem storeq {K : World → Prop} (ho : ops[i]? = some o) (hd : o.dst = none) (hw : Region.wanted o (yielded ops a.tmps) = true) (hr : (execOp a.eval o).run P w = .ok .skip w') (hK : K w') : wpOp P ops Q i (fun a' w' => a' = a ∧ K w') a w := by
  refine wp ho hw ?_
  unfold Oper.wp
  rw [hr]
  show a.put o.dst undef = _ ∧ _
  rw [hd]
  exact ⟨rfl, hK⟩
end
end Rv
end Go.Proofs.Ytkbglnhdbnijlaa
/-
  The region of the document's Instead that draws its order.
-/
namespace Go.Proofs.Ytkbglnhdbnijlaa
open Go.RowKit
set_option maxRecDepth 100000

def el_0 : Oper := { dst := some 34, op := Op.fieldAddr 40 (Operand.tmp 8) 5, type := 0, pos := "ref.go:139", after := #[], guard := none }
def el_1 : Oper := { dst := some 35, op := Op.load 38 (Operand.tmp 34), type := 38, pos := "ref.go:139", after := #[{ on := 0, ground := Ground.data }], guard := none }
def el_2 : Oper := { dst := some 36, op := Op.move (Operand.tmp 9), type := 3, pos := "ref.go:139", after := #[], guard := none }
def el_3 : Oper := { dst := some 37, op := Op.fieldAddr 40 (Operand.tmp 3) 5, type := 0, pos := "ref.go:139", after := #[], guard := none }
def el_4 : Oper := { dst := some 38, op := Op.load 38 (Operand.tmp 37), type := 38, pos := "ref.go:139", after := #[{ on := 3, ground := Ground.data }], guard := none }
def el_5 : Oper := { dst := some 39, op := Op.move (Operand.tmp 9), type := 3, pos := "ref.go:139", after := #[], guard := none }
def el_6 : Oper := { dst := some 40, op := Op.indexAddr 38 (Operand.tmp 38) (Operand.tmp 39), type := 0, pos := "ref.go:139", after := #[{ on := 4, ground := Ground.data }, { on := 5, ground := Ground.data }], guard := none }
def el_7 : Oper := { dst := some 41, op := Op.load 40 (Operand.tmp 40), type := 40, pos := "ref.go:139", after := #[{ on := 6, ground := Ground.data }], guard := none }
def el_8 : Oper := { dst := some 42, op := Op.move (Operand.tmp 7), type := 3, pos := "ref.go:139", after := #[], guard := none }
def el_9 : Oper := { dst := some 43, op := Op.binOp BinOp.quo 3 (Operand.tmp 42) (Operand.const (Value.int IntKind.i64 3)) 3, type := 3, pos := "ref.go:139", after := #[{ on := 8, ground := Ground.data }], guard := none }
def el_10 : Oper := { dst := some 44, op := Op.load 40 (Operand.tmp 5), type := 40, pos := "ref.go:139", after := #[], guard := none }
def el_11 : Oper := { dst := some 45, op := Op.call { callee := Callee.value (Operand.func 16), args := #[Operand.tmp 41, Operand.tmp 43, Operand.tmp 44], argTypes := #[40, 3, 40] }, type := 40, pos := "ref.go:139", after := #[{ on := 7, ground := Ground.data }, { on := 9, ground := Ground.data }, { on := 10, ground := Ground.data }], guard := none }
def el_12 : Oper := { dst := some 46, op := Op.indexAddr 38 (Operand.tmp 35) (Operand.tmp 36), type := 0, pos := "ref.go:139", after := #[{ on := 1, ground := Ground.data }, { on := 2, ground := Ground.data }, { on := 0, ground := Ground.phase }, { on := 1, ground := Ground.phase }, { on := 2, ground := Ground.phase }, { on := 3, ground := Ground.phase }, { on := 4, ground := Ground.phase }, { on := 5, ground := Ground.phase }, { on := 6, ground := Ground.phase }, { on := 7, ground := Ground.phase }, { on := 8, ground := Ground.phase }, { on := 9, ground := Ground.phase }, { on := 10, ground := Ground.phase }, { on := 11, ground := Ground.phase }], guard := none }
def el_13 : Oper := { dst := none, op := Op.store 40 (Operand.tmp 46) (Operand.tmp 45), type := 0, pos := "ref.go:139", after := #[{ on := 12, ground := Ground.data }, { on := 11, ground := Ground.data }, { on := 11, ground := Ground.chain }, { on := 0, ground := Ground.phase }, { on := 1, ground := Ground.phase }, { on := 2, ground := Ground.phase }, { on := 3, ground := Ground.phase }, { on := 4, ground := Ground.phase }, { on := 5, ground := Ground.phase }, { on := 6, ground := Ground.phase }, { on := 7, ground := Ground.phase }, { on := 8, ground := Ground.phase }, { on := 9, ground := Ground.phase }, { on := 10, ground := Ground.phase }, { on := 11, ground := Ground.phase }], guard := none }
def el_ops : Array Oper := #[el_0, el_1, el_2, el_3, el_4, el_5, el_6, el_7, el_8, el_9, el_10, el_11, el_12, el_13]
def el_sl (k : Nat) : Nat := 34 + k
def el_V (b8 b3 b5 _bY g o5 n c7 cx k n0 m : Nat) (y0 y1 y2 y3 y4 y5 y6 t0 t1 t2 t3 t4 t5 t6 : Value) : Nat → Value
  | 0 => .pointer (some ⟨b8, 5, none⟩)
  | 1 => .slice (some ⟨g, 0, none⟩) n c7
  | 2 => .int .i64 k
  | 3 => .pointer (some ⟨b3, 5, none⟩)
  | 4 => .slice (some ⟨b5, o5, none⟩) n cx
  | 5 => .int .i64 k
  | 6 => .pointer (some ⟨b5, o5 + k * 7, none⟩)
  | 7 => .agg #[y0, y1, y2, y3, y4, y5, y6]
  | 8 => .int .i64 n0
  | 9 => .int .i64 m
  | 10 => .agg #[t0, t1, t2, t3, t4, t5, t6]
  | 11 => undef
  | _ => .pointer (some ⟨g, k * 7, none⟩)
section
variable {Q : Exit → Act → World → Prop} {X0 : World} {a0 : Act}
set_option maxHeartbeats 4000000 in
theorem ins8 {b8 b3 b5 bY g o5 n c7 cx k n0 m : Nat} {y0 y1 y2 y3 y4 y5 y6 t0 t1 t2 t3 t4 t5 t6 : Value} (hkn : k < n) (r2 : Int.tdiv (n0 : Int) 3 = (m : Int)) (_hn0 : n0 ≤ 9223372036854775807) (wm : IntKind.i64.wrap (m : Int) = (m : Int)) (hS : ∀ w, Below X0.heap.size X0 w → w.cell? ⟨b8, 5, none⟩ = some (.slice (some ⟨g, 0, none⟩) n c7) ∧ w.cell? ⟨b3, 5, none⟩ = some (.slice (some ⟨b5, o5, none⟩) n cx) ∧ w.cell? ⟨b5, o5 + k * 7, none⟩ = some y0 ∧ w.cell? ⟨b5, o5 + k * 7 + 1, none⟩ = some y1 ∧ w.cell? ⟨b5, o5 + k * 7 + 2, none⟩ = some y2 ∧ w.cell? ⟨b5, o5 + k * 7 + 3, none⟩ = some y3 ∧ w.cell? ⟨b5, o5 + k * 7 + 4, none⟩ = some y4 ∧ w.cell? ⟨b5, o5 + k * 7 + 5, none⟩ = some y5 ∧ w.cell? ⟨b5, o5 + k * 7 + 6, none⟩ = some y6 ∧ w.cell? ⟨bY, 0, none⟩ = some t0 ∧ w.cell? ⟨bY, 1, none⟩ = some t1 ∧ w.cell? ⟨bY, 2, none⟩ = some t2 ∧ w.cell? ⟨bY, 3, none⟩ = some t3 ∧ w.cell? ⟨bY, 4, none⟩ = some t4 ∧ w.cell? ⟨bY, 5, none⟩ = some t5 ∧ w.cell? ⟨bY, 6, none⟩ = some t6) (G : Value → World → Prop) (K : World → Prop) (hG : ∀ v w, G v w → Below X0.heap.size X0 w)
    (hc : Calls Try.prog 16 #[.agg #[y0, y1, y2, y3, y4, y5, y6], .int .i64 m, .agg #[t0, t1, t2, t3, t4, t5, t6]] X0 fun e w' => ∃ v, e = .returned v ∧ G v w')
    (hst : ∀ v w, G v w → ∃ A w', v = .agg A ∧ A.size = 7 ∧ (storeCells ⟨g, k * 7, none⟩ A.toList).run Try.prog w = .ok () w' ∧ K w') (hs : 48 ≤ a0.tmps.size)
    (e8 : Rv.ev a0 8 = .pointer (some ⟨b8, 0, none⟩))
    (e9 : Rv.ev a0 9 = .int .i64 k)
    (e3 : Rv.ev a0 3 = .pointer (some ⟨b3, 0, none⟩))
    (e7 : Rv.ev a0 7 = .int .i64 n0)
    (e5 : Rv.ev a0 5 = .pointer (some ⟨bY, 0, none⟩))
    (hQ : ∀ a w, Rv.Off 13 el_sl a0 a → K w → Q .normal a w) :
    wpAny Try.prog .any el_ops Q 14 (Array.replicate 14 false) a0 X0 := by
  refine Rv.cs (X0 := X0) 13 11 el_sl (el_V b8 b3 b5 bY g o5 n c7 cx k n0 m y0 y1 y2 y3 y4 y5 y6 t0 t1 t2 t3 t4 t5 t6) G K rfl (by decide) (by decide) (by decide) (fun j hj => Nat.lt_of_lt_of_le ((by decide : ∀ j, j < 13 → el_sl j < 48) j hj) hs) (by decide) hG ?_ ?_ ?_ hQ
  · intro i a W hi hic hO hW hd
    have hev : ∀ j, a.eval (.tmp j) = Rv.ev a j := fun _ => rfl
    have hcn : ∀ v, a.eval (.const v) = v := fun _ => rfl
    have hfn : ∀ v, a.eval (.func v) = .func (.func v) #[] #[] := fun _ => rfl
    have g8 : Rv.ev a 8 = .pointer (some ⟨b8, 0, none⟩) := (hO.same 8 (by decide)).trans e8
    have g9 : Rv.ev a 9 = .int .i64 k := (hO.same 9 (by decide)).trans e9
    have g3 : Rv.ev a 3 = .pointer (some ⟨b3, 0, none⟩) := (hO.same 3 (by decide)).trans e3
    have g7 : Rv.ev a 7 = .int .i64 n0 := (hO.same 7 (by decide)).trans e7
    have g5 : Rv.ev a 5 = .pointer (some ⟨bY, 0, none⟩) := (hO.same 5 (by decide)).trans e5
    obtain ⟨z1, z2, p0, p1, p2, p3, p4, p5, p6, q0, q1, q2, q3, q4, q5, q6⟩ := hS W hW
    have hN : i = 0 ∨ i = 1 ∨ i = 2 ∨ i = 3 ∨ i = 4 ∨ i = 5 ∨ i = 6 ∨ i = 7 ∨ i = 8 ∨ i = 9 ∨ i = 10 ∨ i = 12 := by omega
    rcases hN with rfl | rfl | rfl | rfl | rfl | rfl | rfl | rfl | rfl | rfl | rfl | rfl
    · exact Rv.runq (o := el_0) rfl rfl (Rv.want_free rfl) (by unfold el_0; simp only [execOp, hev, g8]; go_simp <;> rfl)
    · have d34 : Rv.ev a 34 = .pointer (some ⟨b8, 5, none⟩) := hd 0 (by decide) (by decide)
      exact Rv.runq (o := el_1) rfl rfl (Rv.want_free rfl) (by unfold el_1; simp only [execOp, hev, d34]; go_simp <;> rfl)
    · exact Rv.runq (o := el_2) rfl rfl (Rv.want_free rfl) (by unfold el_2; simp only [execOp, hev, g9]; rfl)
    · exact Rv.runq (o := el_3) rfl rfl (Rv.want_free rfl) (by unfold el_3; simp only [execOp, hev, g3]; go_simp <;> rfl)
    · have d37 : Rv.ev a 37 = .pointer (some ⟨b3, 5, none⟩) := hd 3 (by decide) (by decide)
      exact Rv.runq (o := el_4) rfl rfl (Rv.want_free rfl) (by unfold el_4; simp only [execOp, hev, d37]; go_simp <;> rfl)
    · exact Rv.runq (o := el_5) rfl rfl (Rv.want_free rfl) (by unfold el_5; simp only [execOp, hev, g9]; rfl)
    · have d38 : Rv.ev a 38 = .slice (some ⟨b5, o5, none⟩) n cx := hd 4 (by decide) (by decide)
      have d39 : Rv.ev a 39 = .int .i64 k := hd 5 (by decide) (by decide)
      exact Rv.runq (o := el_6) rfl rfl (Rv.want_free rfl) (by unfold el_6; simp only [execOp, hev, d38, d39]; go_simp <;> rfl)
    · have d40 : Rv.ev a 40 = .pointer (some ⟨b5, o5 + k * 7, none⟩) := hd 6 (by decide) (by decide)
      exact Rv.runq (o := el_7) rfl rfl (Rv.want_free rfl) (by unfold el_7; simp only [execOp, hev, d40]; go_simp <;> rfl)
    · exact Rv.runq (o := el_8) rfl rfl (Rv.want_free rfl) (by unfold el_8; simp only [execOp, hev, g7]; rfl)
    · have d42 : Rv.ev a 42 = .int .i64 n0 := hd 8 (by decide) (by decide)
      exact Rv.runq (o := el_9) rfl rfl (Rv.want_free rfl) (by unfold el_9; simp only [execOp, hev, hcn, d42]; go_simp <;> rfl)
    · exact Rv.runq (o := el_10) rfl rfl (Rv.want_free rfl) (by unfold el_10; simp only [execOp, hev, g5]; go_simp <;> rfl)
    · have d35 : Rv.ev a 35 = .slice (some ⟨g, 0, none⟩) n c7 := hd 1 (by decide) (by decide)
      have d36 : Rv.ev a 36 = .int .i64 k := hd 2 (by decide) (by decide)
      exact Rv.runq (o := el_12) rfl rfl (Rv.want_free rfl) (by unfold el_12; simp only [execOp, hev, d35, d36]; go_simp <;> rfl)
  · intro a hO hd
    have hev : ∀ j, a.eval (.tmp j) = Rv.ev a j := fun _ => rfl
    have hcn : ∀ v, a.eval (.const v) = v := fun _ => rfl
    have hfn : ∀ v, a.eval (.func v) = .func (.func v) #[] #[] := fun _ => rfl
    have g8 : Rv.ev a 8 = .pointer (some ⟨b8, 0, none⟩) := (hO.same 8 (by decide)).trans e8
    have g9 : Rv.ev a 9 = .int .i64 k := (hO.same 9 (by decide)).trans e9
    have g3 : Rv.ev a 3 = .pointer (some ⟨b3, 0, none⟩) := (hO.same 3 (by decide)).trans e3
    have g7 : Rv.ev a 7 = .int .i64 n0 := (hO.same 7 (by decide)).trans e7
    have g5 : Rv.ev a 5 = .pointer (some ⟨bY, 0, none⟩) := (hO.same 5 (by decide)).trans e5
    have d41 : Rv.ev a 41 = .agg #[y0, y1, y2, y3, y4, y5, y6] := hd 7 (by decide) (by decide)
    have d43 : Rv.ev a 43 = .int .i64 m := hd 9 (by decide) (by decide)
    have d44 : Rv.ev a 44 = .agg #[t0, t1, t2, t3, t4, t5, t6] := hd 10 (by decide) (by decide)
    refine Rv.callq (o := el_11) (f := 16) (vs := #[.agg #[y0, y1, y2, y3, y4, y5, y6], .int .i64 m, .agg #[t0, t1, t2, t3, t4, t5, t6]]) rfl rfl (Rv.want_free rfl) ?_ hc
    unfold el_11
    simp only [execOp, resolve, invoke, Sem.run_bind, List.map_toArray, List.map_cons, List.map_nil, hev, hfn, d41, d43, d44]
    go_simp
  · intro a W v hO hd hv hg
    have hev : ∀ j, a.eval (.tmp j) = Rv.ev a j := fun _ => rfl
    obtain ⟨A, w', rfl, hA7, hrun, hK⟩ := hst v W hg
    have d46 : Rv.ev a 46 = .pointer (some ⟨g, k * 7, none⟩) := hd 12 (by decide) (by decide)
    have d45 : Rv.ev a 45 = .agg A := hv
    exact Rv.storeq (o := el_13) rfl rfl (Rv.want_free rfl) (by unfold el_13; simp only [execOp, hev, d46, d45]; go_simp <;> rfl) hK
end
theorem lit48 (f : Nat → Value) : ((List.range 48).map f).toArray = #[f 0, f 1, f 2, f 3, f 4, f 5, f 6, f 7, f 8, f 9, f 10, f 11, f 12, f 13, f 14, f 15, f 16, f 17, f 18, f 19, f 20, f 21, f 22, f 23, f 24, f 25, f 26, f 27, f 28, f 29, f 30, f 31, f 32, f 33, f 34, f 35, f 36, f 37, f 38, f 39, f 40, f 41, f 42, f 43, f 44, f 45, f 46, f 47] := rfl
theorem tmps48 (a : Act) (h : a.tmps.size = 48) : a.tmps = ((List.range 48).map (Rv.ev a)).toArray := by
  apply Array.ext
  · simp [h]
  · intro i h1 h2
    simp [Rv.ev, Act.eval, h1]
set_option maxHeartbeats 16000000 in
theorem offL {x0 x1 x2 x3 x4 x5 x6 x7 x8 x9 x10 x11 x12 x13 x14 x15 x16 x17 x18 x19 x20 x21 x22 x23 x24 x25 x26 x27 x28 x29 x30 x31 x32 x33 x34 x35 x36 x37 x38 x39 x40 x41 x42 x43 x44 x45 x46 x47 : Value} {a : Act} (h : Rv.Off 13 el_sl { tmps := #[x0, x1, x2, x3, x4, x5, x6, x7, x8, x9, x10, x11, x12, x13, x14, x15, x16, x17, x18, x19, x20, x21, x22, x23, x24, x25, x26, x27, x28, x29, x30, x31, x32, x33, x34, x35, x36, x37, x38, x39, x40, x41, x42, x43, x44, x45, x46, x47], defers := [] } a) : ∃ y34 y35 y36 y37 y38 y39 y40 y41 y42 y43 y44 y45 y46, (Rv.ev a 34 = y34 ∧ Rv.ev a 35 = y35 ∧ Rv.ev a 36 = y36 ∧ Rv.ev a 37 = y37 ∧ Rv.ev a 38 = y38 ∧ Rv.ev a 39 = y39 ∧ Rv.ev a 40 = y40 ∧ Rv.ev a 41 = y41 ∧ Rv.ev a 42 = y42 ∧ Rv.ev a 43 = y43 ∧ Rv.ev a 44 = y44 ∧ Rv.ev a 45 = y45 ∧ Rv.ev a 46 = y46) ∧ a = { tmps := #[x0, x1, x2, x3, x4, x5, x6, x7, x8, x9, x10, x11, x12, x13, x14, x15, x16, x17, x18, x19, x20, x21, x22, x23, x24, x25, x26, x27, x28, x29, x30, x31, x32, x33, y34, y35, y36, y37, y38, y39, y40, y41, y42, y43, y44, y45, y46, x47], defers := [] } := by
  refine ⟨Rv.ev a 34, Rv.ev a 35, Rv.ev a 36, Rv.ev a 37, Rv.ev a 38, Rv.ev a 39, Rv.ev a 40, Rv.ev a 41, Rv.ev a 42, Rv.ev a 43, Rv.ev a 44, Rv.ev a 45, Rv.ev a 46, ⟨rfl, rfl, rfl, rfl, rfl, rfl, rfl, rfl, rfl, rfl, rfl, rfl, rfl⟩, ?_⟩
  have e := tmps48 a h.size
  rw [lit48] at e
  have h0 : Rv.ev a 0 = x0 := h.same 0 (by decide)
  have h1 : Rv.ev a 1 = x1 := h.same 1 (by decide)
  have h2 : Rv.ev a 2 = x2 := h.same 2 (by decide)
  have h3 : Rv.ev a 3 = x3 := h.same 3 (by decide)
  have h4 : Rv.ev a 4 = x4 := h.same 4 (by decide)
  have h5 : Rv.ev a 5 = x5 := h.same 5 (by decide)
  have h6 : Rv.ev a 6 = x6 := h.same 6 (by decide)
  have h7 : Rv.ev a 7 = x7 := h.same 7 (by decide)
  have h8 : Rv.ev a 8 = x8 := h.same 8 (by decide)
  have h9 : Rv.ev a 9 = x9 := h.same 9 (by decide)
  have h10 : Rv.ev a 10 = x10 := h.same 10 (by decide)
  have h11 : Rv.ev a 11 = x11 := h.same 11 (by decide)
  have h12 : Rv.ev a 12 = x12 := h.same 12 (by decide)
  have h13 : Rv.ev a 13 = x13 := h.same 13 (by decide)
  have h14 : Rv.ev a 14 = x14 := h.same 14 (by decide)
  have h15 : Rv.ev a 15 = x15 := h.same 15 (by decide)
  have h16 : Rv.ev a 16 = x16 := h.same 16 (by decide)
  have h17 : Rv.ev a 17 = x17 := h.same 17 (by decide)
  have h18 : Rv.ev a 18 = x18 := h.same 18 (by decide)
  have h19 : Rv.ev a 19 = x19 := h.same 19 (by decide)
  have h20 : Rv.ev a 20 = x20 := h.same 20 (by decide)
  have h21 : Rv.ev a 21 = x21 := h.same 21 (by decide)
  have h22 : Rv.ev a 22 = x22 := h.same 22 (by decide)
  have h23 : Rv.ev a 23 = x23 := h.same 23 (by decide)
  have h24 : Rv.ev a 24 = x24 := h.same 24 (by decide)
  have h25 : Rv.ev a 25 = x25 := h.same 25 (by decide)
  have h26 : Rv.ev a 26 = x26 := h.same 26 (by decide)
  have h27 : Rv.ev a 27 = x27 := h.same 27 (by decide)
  have h28 : Rv.ev a 28 = x28 := h.same 28 (by decide)
  have h29 : Rv.ev a 29 = x29 := h.same 29 (by decide)
  have h30 : Rv.ev a 30 = x30 := h.same 30 (by decide)
  have h31 : Rv.ev a 31 = x31 := h.same 31 (by decide)
  have h32 : Rv.ev a 32 = x32 := h.same 32 (by decide)
  have h33 : Rv.ev a 33 = x33 := h.same 33 (by decide)
  have h47 : Rv.ev a 47 = x47 := h.same 47 (by decide)
  rw [h0, h1, h2, h3, h4, h5, h6, h7, h8, h9, h10, h11, h12, h13, h14, h15, h16, h17, h18, h19, h20, h21, h22, h23, h24, h25, h26, h27, h28, h29, h30, h31, h32, h33, h47] at e
  have hd : a.defers = [] := h.def_
  cases a
  simp only at e hd
  rw [hd]
  exact congrArg (fun t => ({ tmps := t, defers := [] } : Act)) e
end Go.Proofs.Ytkbglnhdbnijlaa
/-
  The document's Instead: another one in the place of a part, as new memory.
-/
namespace Go.Proofs.Ytkbglnhdbnijlaa
open Go.RowKit Go.Maps
set_option maxRecDepth 100000

/-- The cells of a row of expressions. -/
theorem ElW.cells {w : World} {A : Nat → Prop} : ∀ {xs : List Ex} {b off : Nat}, ElW w A (some ⟨b, off, none⟩) xs → ∃ L : List Value, L.length = xs.length * 7 ∧ (∀ j u, L[j]? = some u → w.cell? ⟨b, off + j, none⟩ = some u) ∧ (∀ u ∈ L, u.oneCell' = true) ∧ ∀ k, k < xs.length → ExW w A (xs.getD k ed) ((L.drop (k * 7)).take 7)
  | [], b, off, _ => ⟨[], by simp, by simp, by simp, by simp⟩
  | x :: xs, b, off, h => by
    cases h with
    | cons hA hr hx hl =>
      rename_i vs
      obtain ⟨L, h1, h2, h3, h4⟩ := ElW.cells hl
      have hv := hx.len
      refine ⟨vs ++ L, by simp [h1, hv]; omega, fun j u hj => ?_, fun u hu => ?_, fun k hk => ?_⟩
      · by_cases hj7 : j < 7
        · rw [List.getElem?_append_left (by omega)] at hj
          exact hr j u hj
        · rw [List.getElem?_append_right (by omega)] at hj
          have := h2 _ u hj
          rw [hv, show off + 7 + (j - 7) = off + j by omega] at this
          exact this
      · rcases List.mem_append.1 hu with h | h
        · exact hx.one u h
        · exact h3 u h
      · cases k with
        | zero =>
          have e : ((vs ++ L).drop (0 * 7)).take 7 = vs := by
            rw [Nat.zero_mul, List.drop_zero, List.take_append_of_le_length (by omega), List.take_of_length_le (by omega)]
          rw [e]
          exact hx
        | succ k =>
          have e : (vs ++ L).drop ((k + 1) * 7) = L.drop (k * 7) := by
            rw [show (k + 1) * 7 = vs.length + k * 7 by omega, List.drop_append, List.drop_of_length_le (by omega), List.nil_append]
            congr 1
            omega
          rw [e]
          exact h4 k (by simpa using hk)
/-- A row of expressions, part by part. -/
theorem ElW.of {w : World} {A : Nat → Prop} {b : Nat} (hA : A b) : ∀ (xs : List Ex) (off : Nat), (∀ k, k < xs.length → ∃ vs, w.rangeAt b (off + k * 7) vs ∧ ExW w A (xs.getD k ed) vs) → ElW w A (some ⟨b, off, none⟩) xs
  | [], _, _ => .nil
  | x :: xs, off, h => by
    obtain ⟨vs, hr, hx⟩ := h 0 (by simp)
    refine .cons hA (by simpa using hr) (by simpa using hx) (ElW.of hA xs (off + 7) fun k hk => ?_)
    obtain ⟨vs, hr, hx⟩ := h (k + 1) (by simpa using hk)
    exact ⟨vs, by rw [show off + 7 + k * 7 = off + (k + 1) * 7 by omega]; exact hr, by simpa using hx⟩
theorem store_at {w : World} {b : Nat} {t : TypeId} {vs : List Value} (hS : Bk w b t vs) (o : Nat) (A : Array Value) (hl : o + A.size ≤ vs.length) (h1 : ∀ v ∈ A.toList, v.oneCell' = true) :
    ∃ w', (storeCells ⟨b, o, none⟩ A.toList).run Try.prog w = .ok () w' ∧ Bk w' b t (over vs o A.toList) ∧ Oth b w w' := by
  have ht := hS.there o A.size hl
  have hr := run_storeCells_cells (P := Try.prog) b o A.toList 0 w (fun j hj => by have := (ht j (by simpa using hj)).1; simpa using this) (fun j hj => by have := (ht j (by simpa using hj)).2; simpa using this) h1
  obtain ⟨h2, h3⟩ := hS.sets A.toList o
  exact ⟨_, by simpa using hr, h2, h3⟩
theorem over_get : ∀ (xs vs : List Value) (o j : Nat), o + xs.length ≤ vs.length → (over vs o xs)[j]? = if o ≤ j ∧ j < o + xs.length then xs[j - o]? else vs[j]?
  | [], vs, o, j, _ => by
    rw [over, if_neg (by simp)]
  | x :: xs, vs, o, j, h => by
    simp only [List.length_cons] at h
    rw [over, over_get xs (vs.set o x) (o + 1) j (by simp; omega)]
    simp only [List.length_cons]
    by_cases h1 : j = o
    · subst h1
      rw [if_neg (by omega), if_pos (by omega), List.getElem?_set_self (by omega), Nat.sub_self]
      rfl
    · by_cases h2 : o + 1 ≤ j ∧ j < o + 1 + xs.length
      · rw [if_pos h2, if_pos (by omega), show j - o = (j - (o + 1)) + 1 by omega]
        rfl
      · rw [if_neg h2, if_neg (by omega), List.getElem?_set_ne (by omega)]
theorem Try.infoEx3 : (Try.prog.info? 40).map (fun i => (i.zero, i.size, i.bytes)) = some (some (.agg #[.int .i64 0, .string ⟨#[]⟩, .string ⟨#[]⟩, .int .i64 0, .complex .f64 0 0, .slice none 0 0, .int .i64 0]), 7, 96) := by kernel_rfl
theorem Try.underEx3 : Try.prog.underlying 38 = some (.slice 40) := by kernel_rfl
/-- The parts as a new row. -/
theorem ex_app {w : World} {A : Nat → Prop} {xs : List Ex} {b off : Nat} (h : ElW w A (some ⟨b, off, none⟩) xs) (cap : Nat) (hn : xs.length ≤ 1048576) (hp : 0 < xs.length) :
    ∃ g c' cur w', (Builtin.append_ #[38, 38] 38 #[.slice none 0 0, .slice (some ⟨b, off, none⟩) xs.length cap]).run Try.prog w = .ok (.slice (some ⟨g, 0, none⟩) xs.length c') w' ∧ w.heap.size ≤ g ∧ Bk w' g 40 cur ∧ xs.length * 7 ≤ cur.length ∧ (∀ k, k < xs.length → ExW w A (xs.getD k ed) ((cur.drop (k * 7)).take 7)) ∧ xs.length ≤ c' ∧ Below w.heap.size w w' := by
  obtain ⟨L, h1, h2, h3, h4⟩ := h.cells
  obtain ⟨i0, hi, hz0, hz1, hz2⟩ := info_parts Try.infoEx3
  obtain ⟨v', w', hr, ho', hgr, _⟩ := run_append_own (P := Try.prog) w w.heap.size 38 38 40 i0 _ 7 96 Try.underEx3 hi hz0 hz1 hz2 rfl (by decide) (.slice none 0 0) 0 [] (World.ownsRow_nil _ _ _ _) ⟨b, off, none⟩ xs.length cap L h1 (fun j u hj => by rw [Addr.add_mid]; exact h2 j u hj) h3 (by unfold maxLen; omega) (by omega) (Nat.le_refl _)
  rcases ho'.2 with ⟨_, e⟩ | ⟨g, c', cur, rfl, hb, hg, hc1, hc2, hc3, hc4⟩
  · omega
  · have hlen : xs.length * 7 ≤ cur.toList.length := by
      have := congrArg List.length hc4
      simp [h1] at this
      simp
      omega
    refine ⟨g, c', cur.toList, w', by rw [hr, Nat.zero_add], hb, by unfold Bk; rw [hg], hlen, fun k hk => ?_, by omega, (Below.refl _ w).grown hgr (Nat.le_refl _) (by simp [Value.ownBlock])⟩
    have e : ((cur.toList.drop (k * 7)).take 7) = (L.drop (k * 7)).take 7 := by
      have hL : L = cur.toList.take (xs.length * 7) := by rw [List.nil_append, Nat.zero_add] at hc4; exact hc4.symm
      rw [hL, List.drop_take, List.take_take]
      congr 1
      omega
    rw [e]
    exact h4 k hk
/-- A new row with one part put into it. -/
theorem ElW.put {w : World} {A' : Nat → Prop} {g : Nat} (hg : A' g) {T : TypeId} {cur : List Value} {xs : List Ex} {k : Nat} {z : Ex} {Al : List Value} (hB : Bk w g T (over cur (k * 7) Al)) (hl : xs.length * 7 ≤ cur.length) (hk : k < xs.length) (hz : ExW w A' z Al) (hx : ∀ j, j < xs.length → ExW w A' (xs.getD j ed) ((cur.drop (j * 7)).take 7)) : ElW w A' (some ⟨g, 0, none⟩) (xs.set k z) := by
  have hA := hz.len
  refine ElW.of hg _ 0 fun j hj => ?_
  rw [List.length_set] at hj
  by_cases e : j = k
  · subst e
    refine ⟨Al, fun i v hv => ?_, ?_⟩
    · have hi := (List.getElem?_eq_some_iff.1 hv).1
      rw [Nat.zero_add, hB.cell, over_get _ _ _ _ (by omega), if_pos (by omega), show j * 7 + i - j * 7 = i by omega]
      exact hv
    · rw [List.getD_eq_getElem?_getD, List.getElem?_set_self hk]
      exact hz
  · refine ⟨(cur.drop (j * 7)).take 7, fun i v hv => ?_, ?_⟩
    · have hi := (List.getElem?_eq_some_iff.1 hv).1
      have hi7 : i < 7 := by
        rw [List.length_take] at hi
        omega
      rw [Nat.zero_add, hB.cell, over_get _ _ _ _ (by omega), if_neg (by omega)]
      rw [List.getElem?_take_of_lt hi7, List.getElem?_drop] at hv
      exact hv
    · have e2 : (xs.set k z).getD j ed = xs.getD j ed := by
        rw [List.getD_eq_getElem?_getD, List.getElem?_set_ne (fun h => e h.symm), List.getD_eq_getElem?_getD]
      rw [e2]
      exact hx j hj

set_option maxHeartbeats 4000000 in
theorem instead_any : ∀ (N : Nat) (x : Ex), szE x ≤ N → N ≤ 1048576 → ∀ (w : World) (A : Nat → Prop) (us vs : List Value) (y : Ex) (path : Int), ExW w A x us → ExW w A y vs → (∀ b, A b → b < w.heap.size) → -9223372036854775808 ≤ path → path ≤ 9223372036854775807 →
    Calls Try.prog 16 #[.agg us.toArray, .int .i64 path, .agg vs.toArray] w fun e w' => (∃ C, e = .returned (.agg C) ∧ C.size = 7 ∧ ExW w' (fun b => A b ∨ w.heap.size ≤ b) (inE y x path.toNat) C.toList) ∧ Below w.heap.size w w' := by
  intro N
  induction N with
  | zero => intro x h; have := szE_pos x; omega
  | succ N ih =>
    intro x hsz hN w A us vs y path hx hy hA hp1 hp2
    have HA : Hid (∀ b, A b → b < w.heap.size) := hA
    clear hA
    have IH : Hid _ := ih
    clear ih
    cases hx with
    | mk hl =>
      rename_i op name tail ty p q xs i ax cx
      rw [szE_mk] at hsz
      have hlen := length_szL xs
      obtain ⟨n0, hn0⟩ : ∃ n0, n0 = path.toNat := ⟨_, rfl⟩
      have e0 : max path 0 = (n0 : Int) := by omega
      have hnb : n0 ≤ 9223372036854775807 := by omega
      rw [← hn0]
      obtain ⟨v4, hv4⟩ : ∃ v4, v4 = Value.complex .f64 (fl p) (fl q) := ⟨_, rfl⟩
      obtain ⟨v6, hv6⟩ : ∃ v6, v6 = Value.int .i64 (i : Int) := ⟨_, rfl⟩
      rw [← hv4, ← hv6]
      have HV : Hid (v4 = Value.complex .f64 (fl p) (fl q) ∧ v6 = Value.int .i64 (i : Int)) := ⟨hv4, hv6⟩
      clear hv4 hv6 hn0
      obtain ⟨t0, t1, t2, t3, t4, t5, t6, rfl⟩ := list7 hy.len
      have hb0 := Below.thn (below_two w (.cells #[.int .i64 op, .string (bs name), .string (bs tail), .int .i64 ty, v4, .slice ax xs.length cx, v6] 40) (.cells #[t0, t1, t2, t3, t4, t5, t6] 40)) (below_alloc _ (.cells #[.int .i64 0, .string ⟨#[]⟩, .string ⟨#[]⟩, .int .i64 0, .complex .f64 0 0, .slice none 0 0, .int .i64 0] 40))
      have hE0 := ((Bk.new w 40 #[.int .i64 op, .string (bs name), .string (bs tail), .int .i64 ty, v4, .slice ax xs.length cx, v6]).up (below_alloc _ (.cells #[t0, t1, t2, t3, t4, t5, t6] 40))).up (below_alloc _ (.cells #[.int .i64 0, .string ⟨#[]⟩, .string ⟨#[]⟩, .int .i64 0, .complex .f64 0 0, .slice none 0 0, .int .i64 0] 40))
      have hY0 := (Bk.newAt (w := w.alloc (.cells #[.int .i64 op, .string (bs name), .string (bs tail), .int .i64 ty, v4, .slice ax xs.length cx, v6] 40)) (n := w.heap.size + 1) 40 #[t0, t1, t2, t3, t4, t5, t6] (by simp)).up (below_alloc _ (.cells #[.int .i64 0, .string ⟨#[]⟩, .string ⟨#[]⟩, .int .i64 0, .complex .f64 0 0, .slice none 0 0, .int .i64 0] 40))
      have hR0 := Bk.newAt (w := (w.alloc (.cells #[.int .i64 op, .string (bs name), .string (bs tail), .int .i64 ty, v4, .slice ax xs.length cx, v6] 40)).alloc (.cells #[t0, t1, t2, t3, t4, t5, t6] 40)) (n := w.heap.size + 1 + 1) 40 #[.int .i64 0, .string ⟨#[]⟩, .string ⟨#[]⟩, .int .i64 0, .complex .f64 0 0, .slice none 0 0, .int .i64 0] (by simp)
      go_enter Try.func16, Try.ntmps16
      go_upto_region 1 with fail
      obtain ⟨W, hW⟩ : ∃ W, W = ((w.alloc (.cells #[.int .i64 op, .string (bs name), .string (bs tail), .int .i64 ty, v4, .slice ax xs.length cx, v6] 40)).alloc (.cells #[t0, t1, t2, t3, t4, t5, t6] 40)).alloc (.cells #[.int .i64 0, .string ⟨#[]⟩, .string ⟨#[]⟩, .int .i64 0, .complex .f64 0 0, .slice none 0 0, .int .i64 0] 40) := ⟨_, rfl⟩
      rw [← hW] at hb0 hE0 hY0 hR0 ⊢
      clear hW
      obtain ⟨bY, hbY⟩ : ∃ bY, bY = w.heap.size + 1 := ⟨_, rfl⟩
      obtain ⟨bR, hbR⟩ : ∃ bR, bR = w.heap.size + 1 + 1 := ⟨_, rfl⟩
      have hE1 : Bk W w.heap.size 40 [.int .i64 op, .string (bs name), .string (bs tail), .int .i64 ty, v4, .slice ax xs.length cx, v6] := hE0
      have hY1 : Bk W bY 40 [t0, t1, t2, t3, t4, t5, t6] := by rw [hbY]; exact hY0
      have hR1 : Bk W bR 40 [.int .i64 0, .string ⟨#[]⟩, .string ⟨#[]⟩, .int .i64 0, .complex .f64 0 0, .slice none 0 0, .int .i64 0] := by rw [hbR]; exact hR0
      rw [← hbR, ← hbY]
      have hlt := hR1.lt
      have hbs : w.heap.size < bY ∧ bY < bR ∧ bR < W.heap.size := by omega
      have hlW := hl.up hb0
      have hyW := hy.up hb0
      have HB0 : Hid (Below w.heap.size w W) := hb0
      clear hbY hbR hE0 hY0 hR0 hl hy hb0 hlt
      obtain ⟨d0, d1, d2, d3, d4, d5, d6⟩ := Bk.seven hE1
      go_upto_region 2 with fail
      clear e0
      by_cases hs : n0 = 0 ∨ xs.length = 0
      · have HE : Hid (inE y (.mk op name tail ty p q xs i) n0 = y) := inE_stop _ hs
        go_cut [19] (fun v wx => v = .bool true ∧ wx = W)
        case first =>
          by_cases hn0 : n0 = 0
          · subst hn0
            go_wp2_with fail
            go_meet
            case rel => exact ⟨rfl, rfl⟩
          · have hx0 : xs.length = 0 := by omega
            have g1 : ((n0 : Int) == 0) = false := by simp; omega
            rw [hx0] at d5
            clear hx0 hs hlen
            go_wp2_with fail
            go_meet
            case rel => exact ⟨rfl, rfl⟩
        case rest =>
          obtain ⟨rfl, rfl⟩ := hcut
          obtain ⟨f0, f1, f2, f3, f4, f5, f6⟩ := Bk.seven hY1
          have hone := hyW.one
          clear d0 d1 d2 d3 d4 d5 d6 hs hlen
          go_wp2_with (refine wpList_storeN rfl 40 (.tmp 6) (.tmp 20) rfl bR 0 [t0, t1, t2, t3, t4, t5, t6] rfl rfl hR1 (Nat.le_refl 7) Try.infoE hone ?_; intro w9 hB9 hO9)
          have hB9' : Bk w9 bR 40 [t0, t1, t2, t3, t4, t5, t6] := hB9
          obtain ⟨c0, c1, c2, c3, c4, c5', c6⟩ := Bk.seven hB9'
          have hbw : Below w.heap.size w w9 := HB0.out.trans (hO9.below (by omega))
          have hex : ExW w9 (fun b => A b ∨ w.heap.size ≤ b) y [t0, t1, t2, t3, t4, t5, t6] := (hyW.keep fun b hb _ => hO9.block b (by have := HA.out b hb; omega)).imp fun _ h _ => .inl h
          exact bodyPost_ret (v := .agg #[t0, t1, t2, t3, t4, t5, t6]) (by simp [results, Try.results16, go_sem, c0, c1, c2, c3, c4, c5', c6]) rfl ⟨⟨_, rfl, rfl, by rw [HE.out]; exact hex⟩, hbw⟩
      · obtain ⟨k, hk⟩ : ∃ k, k = n0 % xs.length := ⟨_, rfl⟩
        obtain ⟨m, hm⟩ : ∃ m, m = n0 / 3 := ⟨_, rfl⟩
        have hkl : k < xs.length := by rw [hk]; exact Nat.mod_lt _ (by omega)
        have HE : Hid (inE y (.mk op name tail ty p q xs i) n0 = .mk op name tail ty p q (xs.set k (inE y (xs.getD k ed) m)) i) := by rw [hk, hm]; exact inE_go _ hs
        have g1 : ((n0 : Int) == 0) = false := by simp; omega
        have g3 : ¬ (xs.length : Int) = 0 := by omega
        have g2 : ((xs.length : Int) == 0) = false := beq_eq_false_iff_ne.2 g3
        have r1 : Int.tmod (n0 : Int) (xs.length : Int) = (k : Int) := by rw [hk]; exact (Int.ofNat_tmod n0 xs.length).symm
        have r2 : Int.tdiv (n0 : Int) 3 = (m : Int) := by rw [hm]; exact (Int.ofNat_tdiv n0 3).symm
        have hmn : m ≤ 9223372036854775807 := by omega
        obtain ⟨b5, o5, rfl, hb5⟩ : ∃ b o, ax = some ⟨b, o, none⟩ ∧ b < w.heap.size := by
          cases hlW with
          | nil => simp at hkl
          | cons h1 h2 h3 h4 => exact ⟨_, _, rfl, HA.out _ h1⟩
        have hxn : 0 < xs.length := by omega
        have hsk : szE (xs.getD k ed) ≤ N := by have := szL_mem_at hkl; omega
        have hxl : xs.length ≤ 1048576 := by omega
        clear hk hm hs
        have hZ := Bk.new W 40 #[.int .i64 0, .string ⟨#[]⟩, .string ⟨#[]⟩, .int .i64 0, .complex .f64 0 0, .slice none 0 0, .int .i64 0]
        have hbZ := below_alloc W (.cells #[.int .i64 0, .string ⟨#[]⟩, .string ⟨#[]⟩, .int .i64 0, .complex .f64 0 0, .slice none 0 0, .int .i64 0] 40)
        have hone : ∀ v ∈ [.int .i64 op, .string (bs name), .string (bs tail), .int .i64 ty, v4, .slice (some ⟨b5, o5, none⟩) xs.length cx, v6], v.oneCell' = true := by
          intro v hv
          simp only [List.mem_cons, List.not_mem_nil, or_false] at hv
          rcases hv with rfl | rfl | rfl | rfl | rfl | rfl | rfl <;> first | rfl | (rw [HV.out.1]; rfl) | (rw [HV.out.2]; rfl)
        go_upto_region 5 with (refine wpList_storeN rfl 40 (.tmp 8) (.tmp 21) rfl W.heap.size 0 [.int .i64 op, .string (bs name), .string (bs tail), .int .i64 ty, v4, .slice (some ⟨b5, o5, none⟩) xs.length cx, v6] rfl rfl hZ (Nat.le_refl 7) Try.infoE hone ?_; intro w5 hV5 hO5)
        have hV5 : Bk w5 W.heap.size 40 [.int .i64 op, .string (bs name), .string (bs tail), .int .i64 ty, v4, .slice (some ⟨b5, o5, none⟩) xs.length cx, v6] := hV5
        have hW5 : Below W.heap.size W w5 := hbZ.trans (hO5.below (Nat.le_refl _))
        obtain ⟨b8, hb8⟩ : ∃ b8, b8 = W.heap.size := ⟨_, rfl⟩
        rw [← hb8] at hV5 ⊢
        have hE5 := hE1.up hW5
        have hY5 := hY1.up hW5
        have hR5 := hR1.up hW5
        have hl5 := hlW.up hW5
        have hy5 := hyW.up hW5
        have h85 := hV5.lt
        have h8R : bR < b8 := by omega
        have HB5 : Hid (Below w.heap.size w w5) := Below.thn HB0.out hW5
        clear hb8 hW5 hZ hbZ hO5 hE1 hY1 hR1 hlW hyW d0 d1 d2 d3 d4 d5 d6
        have z5 : w5.cell? ⟨b8, 5, none⟩ = some (.slice (some ⟨b5, o5, none⟩) xs.length cx) := hV5.cell 5
        have f5 := hV5.frz 5
        have hV6 : Bk (w5.setCell ⟨b8, 5, none⟩ (.slice none 0 0)) b8 40 [.int .i64 op, .string (bs name), .string (bs tail), .int .i64 ty, v4, .slice none 0 0, v6] := Bk.set hV5 5 _
        have hO6 : Oth b8 w5 (w5.setCell ⟨b8, 5, none⟩ (.slice none 0 0)) := (Oth.refl _ _).set 5 _
        go_upto_region 6 with fail
        generalize w5.setCell ⟨b8, 5, none⟩ (.slice none 0 0) = w6 at *
        have hE6 := hE5.oth hO6 (by omega)
        have hY6 := hY5.oth hO6 (by omega)
        have hR6 := hR5.oth hO6 (by omega)
        have hl6 : ElW w6 _ _ xs := hl5.keep fun b hb _ => hO6.block b (by have := HA.out b hb; omega)
        have hy6 : ExW w6 _ y _ := hy5.keep fun b hb _ => hO6.block b (by have := HA.out b hb; omega)
        have hs6 := hO6.size
        obtain ⟨g, c7, cur, w7, hrun, hg7, hBg, hcl, hEx, hc7, hb7⟩ := ex_app hl6 cx hxl hxn
        have z6 : w6.cell? ⟨b8, 5, none⟩ = some (.slice none 0 0) := hV6.cell 5
        have e6 : w6.cell? ⟨w.heap.size, 5, none⟩ = some (.slice (some ⟨b5, o5, none⟩) xs.length cx) := hE6.cell 5
        have hV7 := hV6.up hb7
        have z7 : w7.cell? ⟨b8, 5, none⟩ = some (.slice none 0 0) := hV7.cell 5
        have f7 := hV7.frz 5
        have hV8 : Bk (w7.setCell ⟨b8, 5, none⟩ (.slice (some ⟨g, 0, none⟩) xs.length c7)) b8 40 [.int .i64 op, .string (bs name), .string (bs tail), .int .i64 ty, v4, .slice (some ⟨g, 0, none⟩) xs.length c7, v6] := Bk.set hV7 5 _
        have hO8 : Oth b8 w7 (w7.setCell ⟨b8, 5, none⟩ (.slice (some ⟨g, 0, none⟩) xs.length c7)) := (Oth.refl _ _).set 5 _
        clear z5 f5 hV5 hE5 hY5 hR5 hl5 hy5
        go_upto_region 7 with (at_builtin; refine wpList_append_run rfl (.tmp 24) (.tmp 26) 38 rfl rfl _ _ rfl rfl _ _ (show _ = _ from hrun) ?_)
        generalize w7.setCell ⟨b8, 5, none⟩ (.slice (some ⟨g, 0, none⟩) xs.length c7) = w8 at *
        have hE8 := (hE6.up hb7).oth hO8 (by omega)
        have hY8 := (hY6.up hb7).oth hO8 (by omega)
        have hR8 := (hR6.up hb7).oth hO8 (by omega)
        have hs7 := hb7.size
        have hs8 := hO8.size
        have hBg8 := hBg.oth hO8 (by omega)
        have hl8 : ElW w8 _ _ xs := (hl6.up hb7).keep fun b hb _ => hO8.block b (by have := HA.out b hb; omega)
        have hy8 : ExW w8 _ y _ := (hy6.up hb7).keep fun b hb _ => hO8.block b (by have := HA.out b hb; omega)
        have hEx8 : ∀ j, j < xs.length → ExW w8 A (xs.getD j ed) ((cur.drop (j * 7)).take 7) := fun j hj => ((hEx j hj).up hb7).keep fun b hb _ => hO8.block b (by have := HA.out b hb; omega)
        have hB8 : Below w.heap.size w w8 := ⟨hO8.os.trans (hb7.os.trans (hO6.os.trans HB5.out.os)), hO8.tape.trans (hb7.tape.trans (hO6.tape.trans HB5.out.tape)), hO8.output.trans (hb7.output.trans (hO6.output.trans HB5.out.output)), by have := HB5.out.size; omega, fun j hj => (hO8.block j (by omega)).trans ((hb7.block j (by have := HB5.out.size; omega)).trans ((hO6.block j (by omega)).trans (HB5.out.block j hj)))⟩
        have HB8 : Hid (Below w.heap.size w w8) := hB8
        have HEX8 : Hid _ := hEx8
        have hg8 : b8 < g ∧ g < w8.heap.size := ⟨by omega, hBg8.lt⟩
        clear hrun z6 e6 z7 f7 hE6 hY6 hR6 hl6 hy6 hEx hBg hO8 hO6 hV6 hV7 hb7 hB8 hEx8
        obtain ⟨ps, hpr, hpx⟩ := hl8.at k hkl
        obtain ⟨y0, y1, y2, y3, y4, y5, y6, rfl⟩ := list7 hpx.len
        have e5 : w8.cell? ⟨w.heap.size, 5, none⟩ = some (.slice (some ⟨b5, o5, none⟩) xs.length cx) := hE8.cell 5
        go_upto_region 8 with fail
        have HRE : Hid (∀ X, Below w8.heap.size w8 X → Calls Try.prog 16 #[.agg #[y0, y1, y2, y3, y4, y5, y6], .int .i64 m, .agg #[t0, t1, t2, t3, t4, t5, t6]] X fun e w' => (∃ C, e = .returned (.agg C) ∧ C.size = 7 ∧ ExW w' (fun b => A b ∨ X.heap.size ≤ b) (inE y (xs.getD k ed) m) C.toList) ∧ Below X.heap.size X w') := fun X hX => IH.out (xs.getD k ed) hsk (by omega) X A [y0, y1, y2, y3, y4, y5, y6] [t0, t1, t2, t3, t4, t5, t6] y (m : Int) (hpx.up hX) (hy8.up hX) (fun b hb => by have := HA.out b hb; have := hX.size; omega) (by omega) (by omega)
        have HS : Hid (∀ X, ButS (· = g) w8 X → X.cell? ⟨b8, 5, none⟩ = some (.slice (some ⟨g, 0, none⟩) xs.length c7) ∧ X.cell? ⟨w.heap.size, 5, none⟩ = some (.slice (some ⟨b5, o5, none⟩) xs.length cx) ∧ (X.cell? ⟨b5, o5 + k * 7, none⟩ = some y0 ∧ X.cell? ⟨b5, o5 + k * 7 + 1, none⟩ = some y1 ∧ X.cell? ⟨b5, o5 + k * 7 + 2, none⟩ = some y2 ∧ X.cell? ⟨b5, o5 + k * 7 + 3, none⟩ = some y3 ∧ X.cell? ⟨b5, o5 + k * 7 + 4, none⟩ = some y4 ∧ X.cell? ⟨b5, o5 + k * 7 + 5, none⟩ = some y5 ∧ X.cell? ⟨b5, o5 + k * 7 + 6, none⟩ = some y6) ∧ (X.cell? ⟨bY, 0, none⟩ = some t0 ∧ X.cell? ⟨bY, 1, none⟩ = some t1 ∧ X.cell? ⟨bY, 2, none⟩ = some t2 ∧ X.cell? ⟨bY, 3, none⟩ = some t3 ∧ X.cell? ⟨bY, 4, none⟩ = some t4 ∧ X.cell? ⟨bY, 5, none⟩ = some t5 ∧ X.cell? ⟨bY, 6, none⟩ = some t6)) := fun X hX => by
          have hq : ∀ j v, [y0, y1, y2, y3, y4, y5, y6][j]? = some v → X.cell? ⟨b5, o5 + k * 7 + j, none⟩ = some v := fun j v hj => (World.cell?_of_block (hX.block b5 (cell_lt (hpr j v hj)) (by omega))).trans (hpr j v hj)
          exact ⟨(hX.bk hV8 (by omega)).cell 5, (hX.bk hE8 (by omega)).cell 5, ⟨hq 0 _ rfl, hq 1 _ rfl, hq 2 _ rfl, hq 3 _ rfl, hq 4 _ rfl, hq 5 _ rfl, hq 6 _ rfl⟩, Bk.seven (hX.bk hY8 (by omega))⟩
        have wm : IntKind.i64.wrap (m : Int) = (m : Int) := by rw [IntKind.wrap_i64]; omega
        clear hpr hpx hl8 hy8 hE8 hY8 e5 IH
        refine wp_region_any (by kernel_rfl) ?_
        refine ins8 (X0 := w8.drew) (b8 := b8) (b3 := w.heap.size) (b5 := b5) (bY := bY) (g := g) (o5 := o5) (n := xs.length) (c7 := c7) (cx := cx) (k := k) (n0 := n0) (m := m) (y0 := y0) (y1 := y1) (y2 := y2) (y3 := y3) (y4 := y4) (y5 := y5) (y6 := y6) (t0 := t0) (t1 := t1) (t2 := t2) (t3 := t3) (t4 := t4) (t5 := t5) (t6 := t6) hkl r2 hnb wm (fun W hW => ?_)
          (fun v X => (∃ C : Array Value, v = .agg C ∧ C.size = 7 ∧ ExW X (fun b => A b ∨ w8.heap.size ≤ b) (inE y (xs.getD k ed) m) C.toList) ∧ Below w8.drew.heap.size w8.drew X)
          (fun X => ∃ (C : Array Value) (w9 : World), Below w8.heap.size w8 w9 ∧ ExW w9 (fun b => A b ∨ w8.heap.size ≤ b) (inE y (xs.getD k ed) m) C.toList ∧ Bk X g 40 (over cur (k * 7) C.toList) ∧ Oth g w9 X) (fun _ _ h => h.2) ?_ ?_ (by show 48 ≤ 48; decide) rfl rfl rfl rfl rfl ?_
        · obtain ⟨q1, q2, ⟨q3, q4, q5, q6, q7, q8, q9⟩, q10, q11, q12, q13, q14, q15, q16⟩ := HS.out W (.below (Below.thn (Below.refl w8.heap.size w8).drew hW))
          exact ⟨q1, q2, q3, q4, q5, q6, q7, q8, q9, q10, q11, q12, q13, q14, q15, q16⟩
        · refine (HRE.out _ (Below.refl w8.heap.size w8).drew).mono ?_
          rintro e w9 ⟨⟨C, rfl, hA7, hx9⟩, n9⟩
          exact ⟨_, rfl, ⟨C, rfl, hA7, hx9⟩, n9⟩
        · rintro v X ⟨⟨C, rfl, hA7, hx9⟩, n9⟩
          have b9 : Below w8.heap.size w8 X := Below.thn (Below.refl w8.heap.size w8).drew n9
          obtain ⟨w10, hst, hB10, hO10⟩ := store_at (hBg8.up b9) (k * 7) C (by omega) hx9.one
          exact ⟨C, w10, rfl, hA7, hst, C, X, b9, hx9, hB10, hO10⟩
        · rintro a X hO ⟨C, w9, b9, hx9, hB10, hO10⟩
          obtain ⟨z34, z35, z36, z37, z38, z39, z40, z41, z42, z43, z44, z45, z46, _, rfl⟩ := offL hO
          have hVX := (hV8.up b9).oth hO10 (by omega)
          have hRX := (hR8.up b9).oth hO10 (by omega)
          obtain ⟨x0, x1, x2, x3, x4, x5, x6⟩ := Bk.seven hVX
          have hone2 : ∀ v ∈ [.int .i64 op, .string (bs name), .string (bs tail), .int .i64 ty, v4, .slice (some ⟨g, 0, none⟩) xs.length c7, v6], v.oneCell' = true := by
            intro v hv
            simp only [List.mem_cons, List.not_mem_nil, or_false] at hv
            rcases hv with rfl | rfl | rfl | rfl | rfl | rfl | rfl <;> first | rfl | (rw [HV.out.1]; rfl) | (rw [HV.out.2]; rfl)
          have hs9 := b9.size
          have hs10 := hO10.size
          have HEL : Hid (ElW X (fun b => A b ∨ b8 < b) (some ⟨g, 0, none⟩) (xs.set k (inE y (xs.getD k ed) m))) := by
            refine ElW.put (.inr (by omega)) hB10 hcl hkl ?_ ?_
            · refine (hx9.keep fun b hb _ => hO10.block b ?_).imp fun b hb _ => ?_
              · rcases hb with hb | hb
                · have := HA.out b hb; omega
                · omega
              · rcases hb with hb | hb
                · exact .inl hb
                · exact .inr (by omega)
            · intro j hj
              exact (((HEX8.out j hj).up b9).keep fun b hb _ => hO10.block b (by have := HA.out b hb; omega)).imp fun b hb _ => .inl hb
          clear hO HS HRE hV8 hR8 hBg8
          go_wp2_with (refine wpList_storeN rfl 40 (.tmp 6) (.tmp 47) rfl bR 0 [.int .i64 op, .string (bs name), .string (bs tail), .int .i64 ty, v4, .slice (some ⟨g, 0, none⟩) xs.length c7, v6] rfl rfl hRX (Nat.le_refl 7) Try.infoE hone2 ?_; intro w11 hB11 hO11)
          have hB9' : Bk w11 bR 40 [.int .i64 op, .string (bs name), .string (bs tail), .int .i64 ty, v4, .slice (some ⟨g, 0, none⟩) xs.length c7, v6] := hB11
          obtain ⟨c0, c1, c2, c3, c4, c5', c6⟩ := Bk.seven hB9'
          have hbX : Below w.heap.size w X := (Below.thn HB8.out b9).trans (hO10.below (by omega))
          have hbw : Below w.heap.size w w11 := hbX.trans (hO11.below (by omega))
          exact bodyPost_ret (v := .agg #[.int .i64 op, .string (bs name), .string (bs tail), .int .i64 ty, v4, .slice (some ⟨g, 0, none⟩) xs.length c7, v6]) (by simp [results, Try.results16, go_sem, c0, c1, c2, c3, c4, c5', c6]) rfl ⟨⟨_, rfl, rfl, by
            rw [HE.out, HV.out.1, HV.out.2]
            have hel : ElW w11 (fun b => A b ∨ w.heap.size ≤ b) (some ⟨g, 0, none⟩) (xs.set k (inE y (xs.getD k ed) m)) := by
              refine (HEL.out.keep fun b hb _ => hO11.block b ?_).imp fun b hb _ => ?_
              · rcases hb with hb | hb
                · have := HA.out b hb; omega
                · omega
              · rcases hb with hb | hb
                · exact .inl hb
                · exact .inr (by omega)
            have := ExW.mk (op := op) (name := name) (tail := tail) (ty := ty) (p := p) (q := q) (pos := i) (c := c7) hel
            rw [List.length_set] at this
            exact this⟩, hbw⟩
end Go.Proofs.Ytkbglnhdbnijlaa
/-
  A row of definitions as new memory; one of its bodies exchanged.
-/
namespace Go.Proofs.Ytkbglnhdbnijlaa
open Go.RowKit Go.Maps
set_option maxRecDepth 100000

theorem FsW.cells {w : World} {A : Nat → Prop} : ∀ {gs : List Fn1} {cs : List Value}, FsW w A gs cs → cs.length = gs.length * 11 ∧ (∀ u ∈ cs, u.oneCell' = true) ∧ ∀ k, k < gs.length → FnW w A (gs.getD k fd) ((cs.drop (k * 11)).take 11)
  | _, _, .nil => ⟨by simp, by simp, by simp⟩
  | _, _, .cons (vs := vs) (xs := xs) (cs := L) hx hl => by
    obtain ⟨h1, h2, h3⟩ := hl.cells
    have hv := hx.len
    refine ⟨by simp [h1, hv]; omega, fun u hu => ?_, fun k hk => ?_⟩
    · rcases List.mem_append.1 hu with h | h
      · exact hx.one u h
      · exact h2 u h
    · cases k with
      | zero =>
        have e : ((vs ++ L).drop (0 * 11)).take 11 = vs := by
          rw [Nat.zero_mul, List.drop_zero, List.take_append_of_le_length (by omega), List.take_of_length_le (by omega)]
        rw [e]
        exact hx
      | succ k =>
        have e : (vs ++ L).drop ((k + 1) * 11) = L.drop (k * 11) := by
          rw [show (k + 1) * 11 = vs.length + k * 11 by omega, List.drop_append, List.drop_of_length_le (by omega), List.nil_append]
          congr 1
          omega
        rw [e]
        exact h3 k (by simpa using hk)
theorem FsW.of {w : World} {A : Nat → Prop} {b : Nat} : ∀ (gs : List Fn1) (off : Nat), (∀ k, k < gs.length → ∃ vs, w.rangeAt b (off + k * 11) vs ∧ FnW w A (gs.getD k fd) vs) → ∃ cs, w.rangeAt b off cs ∧ FsW w A gs cs
  | [], _, _ => ⟨[], fun j v h => by simp at h, .nil⟩
  | x :: xs, off, h => by
    obtain ⟨vs, hr, hx⟩ := h 0 (by simp)
    have hv := hx.len
    obtain ⟨cs, hc, hf⟩ := FsW.of xs (off + 11) fun k hk => by
      obtain ⟨vs, hr, hx⟩ := h (k + 1) (by simpa using hk)
      exact ⟨vs, by rw [show off + 11 + k * 11 = off + (k + 1) * 11 by omega]; exact hr, by simpa using hx⟩
    refine ⟨vs ++ cs, fun j v hj => ?_, .cons (by simpa using hx) hf⟩
    by_cases h11 : j < 11
    · rw [List.getElem?_append_left (by omega)] at hj
      have := hr j v hj
      rw [Nat.zero_mul] at this
      exact this
    · rw [List.getElem?_append_right (by omega)] at hj
      have := hc _ v hj
      rw [hv, show off + 11 + (j - 11) = off + j by omega] at this
      exact this
theorem FlW.of {w : World} {A : Nat → Prop} {g : Nat} (hA : A g) (hg : g < w.heap.size) (gs : List Fn1) (h : ∀ k, k < gs.length → ∃ vs, w.rangeAt g (k * 11) vs ∧ FnW w A (gs.getD k fd) vs) : FlW w A (some ⟨g, 0, none⟩) gs := by
  obtain ⟨cs, h1, h2⟩ := FsW.of gs 0 fun k hk => by
    obtain ⟨vs, a, b⟩ := h k hk
    exact ⟨vs, by rw [Nat.zero_add]; exact a, b⟩
  exact .inr ⟨g, cs, rfl, hA, hg, h1, h2⟩
theorem Try.infoFn3 : (Try.prog.info? 42).map (fun i => (i.zero, i.size, i.bytes)) = some (some (.agg #[.string ⟨#[]⟩, .slice none 0 0, .int .i64 0, .int .i64 0, .string ⟨#[]⟩, .string ⟨#[]⟩, .int .i64 0, .complex .f64 0 0, .slice none 0 0, .int .i64 0, .int .i64 0]), 11, 152) := by kernel_rfl
theorem Try.underFn3 : Try.prog.underlying 24 = some (.slice 42) := by kernel_rfl
/-- The definitions as a new row. -/
theorem fn_app {W : World} {A : Nat → Prop} {gs : List Fn1} {ao : Option Addr} (h : FlW W A ao gs) (cap : Nat) (hn : gs.length ≤ 65536) (hp : 0 < gs.length) :
    ∃ g c' cur w', (Builtin.append_ #[24, 24] 24 #[.slice (some ⟨W.heap.size, 0, none⟩) 0 0, .slice ao gs.length cap]).run Try.prog (W.alloc (.cells #[] 42)) = .ok (.slice (some ⟨g, 0, none⟩) gs.length c') w' ∧ W.heap.size ≤ g ∧ Bk w' g 42 cur ∧ gs.length * 11 ≤ cur.length ∧ (∀ k, k < gs.length → FnW W A (gs.getD k fd) ((cur.drop (k * 11)).take 11)) ∧ gs.length ≤ c' ∧ Below W.heap.size W w' := by
  have hb6 := below_alloc W (.cells #[] 42)
  have hB6 := Bk.new W 42 #[]
  have hO6 : (W.alloc (.cells #[] 42)).ownsRow W.heap.size 42 11 (.slice (some ⟨W.heap.size, 0, none⟩) 0 0) 0 [] := ⟨rfl, .inr ⟨W.heap.size, 0, #[], rfl, Nat.le_refl _, hB6, Nat.le_refl _, by unfold maxLen; omega, rfl, rfl⟩⟩
  rcases h with h | ⟨g0, L, rfl, _, hlt, hr0, hf⟩
  · rw [h] at hp; simp at hp
  · obtain ⟨h1, h3, h4⟩ := hf.cells
    obtain ⟨i0, hi, hz0, hz1, hz2⟩ := info_parts Try.infoFn3
    obtain ⟨v', w', hr, ho', hgr, _⟩ := run_append_own (P := Try.prog) (W.alloc (.cells #[] 42)) W.heap.size 24 24 42 i0 _ 11 152 Try.underFn3 hi hz0 hz1 hz2 rfl (by decide) (.slice (some ⟨W.heap.size, 0, none⟩) 0 0) 0 [] hO6 ⟨g0, 0, none⟩ gs.length cap L h1 (fun j u hj => by rw [Addr.add_mid]; exact (World.cell?_of_block (hb6.block g0 hlt)).trans (hr0 j u hj)) h3 (by unfold maxLen; omega) (by omega) hb6.size
    rcases ho'.2 with ⟨_, e⟩ | ⟨g, c', cur, rfl, hb, hg, hc1, hc2, hc3, hc4⟩
    · omega
    · have hlen : gs.length * 11 ≤ cur.toList.length := by
        have := congrArg List.length hc4
        simp [h1] at this
        simp
        omega
      refine ⟨g, c', cur.toList, w', by rw [hr, Nat.zero_add], hb, by unfold Bk; rw [hg], hlen, fun k hk => ?_, by omega, hb6.trans ((Below.refl _ _).grown hgr hb6.size (own_low hO6))⟩
      have e : ((cur.toList.drop (k * 11)).take 11) = (L.drop (k * 11)).take 11 := by
        have hL : L = cur.toList.take (gs.length * 11) := by rw [List.nil_append, Nat.zero_add] at hc4; exact hc4.symm
        rw [hL, List.drop_take, List.take_take]
        congr 1
        omega
      rw [e]
      exact h4 k hk
/-- One body exchanged. -/
theorem FlW.put {w : World} {A : Nat → Prop} {g : Nat} {T : TypeId} {cc cur C : List Value} {gs : List Fn1} {k : Nat} {z : Ex} (hA : A g) (hB : Bk w g T cc) (_hl : gs.length * 11 ≤ cur.length) (hk : k < gs.length) (hout : ∀ j, j < k * 11 + 3 ∨ k * 11 + 10 ≤ j → cc[j]? = cur[j]?) (hin : ∀ i v, C[i]? = some v → cc[k * 11 + 3 + i]? = some v) (hz : ExW w A z C)
    (hx : ∀ j, j < gs.length → FnW w A (gs.getD j fd) ((cur.drop (j * 11)).take 11)) : FlW w A (some ⟨g, 0, none⟩) (bodS gs k z) := by
  refine FlW.of hA hB.lt _ fun j hj => ?_
  rw [bodS_len] at hj
  rw [bodS_at hk]
  by_cases e : j = k
  · subst e
    rw [if_pos rfl]
    obtain ⟨ao, c, es, hvs, hp, he⟩ := hx j hj
    have hel := he.len
    have hzl := hz.len
    refine ⟨.string (bs (gs.getD j fd).name) :: .slice ao (gs.getD j fd).pms.length c :: .int .i64 (gs.getD j fd).ty :: (C ++ [.int .i64 (gs.getD j fd).pos]), fun i v hv => ?_, ao, c, C, rfl, hp, hz⟩
    have hi := (List.getElem?_eq_some_iff.1 hv).1
    simp [hzl] at hi
    rw [hB.cell]
    have hcur : ∀ i, i < 11 → cur[j * 11 + i]? = (.string (bs (gs.getD j fd).name) :: .slice ao (gs.getD j fd).pms.length c :: .int .i64 (gs.getD j fd).ty :: (es ++ [.int .i64 (gs.getD j fd).pos]))[i]? := fun i h11 => by
      rw [← hvs, List.getElem?_take_of_lt h11, List.getElem?_drop]
    by_cases h3 : i < 3
    · rw [hout _ (by omega), hcur i (by omega), ← hv]
      have : i = 0 ∨ i = 1 ∨ i = 2 := by omega
      rcases this with rfl | rfl | rfl <;> rfl
    · by_cases h10 : i < 10
      · obtain ⟨i', rfl⟩ : ∃ i', i = i' + 3 := ⟨i - 3, by omega⟩
        rw [show j * 11 + (i' + 3) = j * 11 + 3 + i' by omega]
        refine hin i' v ?_
        simp only [List.getElem?_cons_succ] at hv
        rw [List.getElem?_append_left (by omega)] at hv
        exact hv
      · have : i = 10 := by omega
        subst this
        rw [hout _ (by omega), hcur 10 (by omega), ← hv]
        simp only [List.getElem?_cons_succ]
        rw [List.getElem?_append_right (by omega), List.getElem?_append_right (by omega), hel, hzl]
  · rw [if_neg e]
    refine ⟨(cur.drop (j * 11)).take 11, fun i v hv => ?_, hx j hj⟩
    have hi := (List.getElem?_eq_some_iff.1 hv).1
    have hi7 : i < 11 := by
      rw [List.length_take] at hi
      omega
    rw [hB.cell, hout _ (by omega)]
    rw [List.getElem?_take_of_lt hi7, List.getElem?_drop] at hv
    exact hv
end Go.Proofs.Ytkbglnhdbnijlaa
