/-
  2 texts in one: what each proves stands at its head.
-/
import Derived.Test.YtnpigleolifcaaaTr
import Derived.Test.YtnpigleolifcaaaUq
import Derived.Test.YtnpigleolifcaaaUu
import Derived.Test.YtnpigleolifcaaaUe
/-
  Rows of parameters of the call's own.
-/
namespace Go.Proofs.Ytnpigleolifcaaa
open Go.RowKit
set_option maxRecDepth 100000

def paL (qs : List Pa) : List Value := qs.flatMap paC
theorem paL_cons (q : Pa) (qs : List Pa) : paL (q :: qs) = paC q ++ paL qs := by simp [paL]
theorem paL_len : ∀ qs : List Pa, (paL qs).length = qs.length * 3
  | [] => rfl
  | q :: qs => by rw [paL_cons, List.length_append, paL_len qs, List.length_cons]; simp [paC]; omega
theorem paL_app (ps qs : List Pa) : paL (ps ++ qs) = paL ps ++ paL qs := by simp [paL]
theorem paL_one (qs : List Pa) : ∀ u ∈ paL qs, u.oneCell' = true := by
  intro u hu
  unfold paL at hu
  rw [List.mem_flatMap] at hu
  obtain ⟨q, _, h⟩ := hu
  simp only [paC, List.mem_cons, List.not_mem_nil, or_false] at h
  rcases h with rfl | rfl | rfl <;> rfl
theorem paL_get : ∀ (qs : List Pa) (k j : Nat) (v : Value), k < qs.length → (paC (qs.getD k pa0))[j]? = some v → (paL qs)[k * 3 + j]? = some v
  | [], k, _, _, hk, _ => by simp at hk
  | q :: qs, 0, j, v, _, h => by
    rw [List.getD_cons_zero] at h
    have hj := (List.getElem?_eq_some_iff.1 h).1
    rw [paL_cons, Nat.zero_mul, Nat.zero_add, List.getElem?_append_left hj]
    exact h
  | q :: qs, k + 1, j, v, hk, h => by
    rw [List.getD_cons_succ] at h
    rw [paL_cons, List.getElem?_append_right (by simp [paC]; omega), show (k + 1) * 3 + j - (paC q).length = k * 3 + j by simp [paC]; omega]
    exact paL_get qs k j v (by simpa using hk) h
theorem paL_at {w : World} {b off : Nat} : ∀ {qs : List Pa}, (∀ i, i < qs.length → w.rangeAt b (off + i * 3) (paC (qs.getD i pa0))) → ∀ j u, (paL qs)[j]? = some u → w.cell? ⟨b, off + j, none⟩ = some u := by
  intro qs h j u hj
  have hl : j < (paL qs).length := (List.getElem?_eq_some_iff.1 hj).1
  rw [paL_len] at hl
  have hk : j / 3 < qs.length := by omega
  have h1 := h (j / 3) hk
  have hm : j % 3 < 3 := Nat.mod_lt _ (by decide)
  obtain ⟨v, hv⟩ : ∃ v, (paC (qs.getD (j / 3) pa0))[j % 3]? = some v := ⟨_, List.getElem?_eq_getElem (by simp [paC]; omega)⟩
  have h2 := paL_get qs (j / 3) (j % 3) v hk hv
  rw [show j / 3 * 3 + j % 3 = j by omega, hj] at h2
  cases h2
  have h3 := h1 (j % 3) u hv
  rwa [show off + j / 3 * 3 + j % 3 = off + j by omega] at h3

/-- A row of parameters of the call's own. -/
def PaO (w : World) (B : Nat) (v : Value) (qs : List Pa) : Prop := w.ownsRow B 47 3 v qs.length (paL qs)
theorem Try.infoPa : (Try.prog.info? 47).map (fun i => (i.zero, i.size, i.bytes)) = some (some (.agg #[.string ⟨#[]⟩, .int .i64 0, .int .i64 0]), 3, 32) := by kernel_rfl
theorem Try.underPa : Try.prog.underlying 34 = some (.slice 47) := by kernel_rfl
theorem pa_app {w : World} {B : Nat} {v : Value} {ps qs : List Pa} (h : PaO w B v ps) (hB : B ≤ w.heap.size) {ao : Option Addr} (hq : PaW w ao qs) (hnone : ao = none → qs = []) {cap : Nat} (hcap : ao = none → cap = 0) (hn : (ps.length + qs.length) * 32 ≤ 140737488355328) :
    ∃ v' w', (Builtin.append_ #[34, 34] 34 #[v, .slice ao qs.length cap]).run Try.prog w = .ok v' w' ∧ PaO w' B v' (ps ++ qs) ∧ Below B w w' := by
  obtain ⟨i0, hi, hz0, hz1, hz2⟩ := info_parts Try.infoPa
  cases ao with
  | none =>
    have e := hnone rfl
    subst e
    rw [hcap rfl]
    exact ⟨v, w, run_append_owned_none (P := Try.prog) (w := w) B 34 34 47 i0 3 Try.underPa hi v ps.length _ h, by rw [List.append_nil]; exact h, Below.refl _ _⟩
  | some a =>
    have hcell : ∀ j u, (paL qs)[j]? = some u → w.cell? (a.add j) = some u := by
      intro j u hj
      have hne : qs ≠ [] := by intro e; rw [e] at hj; simp [paL] at hj
      obtain ⟨b, off, e, hr⟩ := hq hne
      cases e
      rw [Addr.add_mid]
      exact paL_at hr j u hj
    obtain ⟨v', w', hr, ho', hgr, _⟩ := run_append_own (P := Try.prog) w B 34 34 47 i0 _ 3 32 Try.underPa hi hz0 hz1 hz2 rfl (by decide) v ps.length _ h a qs.length cap (paL qs) (paL_len qs) hcell (paL_one qs) (by unfold maxLen; omega) hn hB
    refine ⟨v', w', hr, ?_, (Below.refl B w).grown hgr hB (own_low h)⟩
    unfold PaO
    rw [List.length_append, paL_app]
    exact ho'
theorem PaW.up {w w' : World} {ao : Option Addr} {qs : List Pa} (h : PaW w ao qs) (hb : Below w.heap.size w w') : PaW w' ao qs := fun hne => by
  obtain ⟨b, off, e, hr⟩ := h hne
  refine ⟨b, off, e, fun i hi => ?_⟩
  have h0 := hr i hi 0 _ rfl
  intro j v hj
  rw [← hr i hi j v hj]
  exact World.cell?_of_block (hb.block b (cell_lt h0))
theorem PaO.row {w : World} {B : Nat} {v : Value} {qs : List Pa} (h : PaO w B v qs) (hne : 0 < qs.length) : ∃ g cap, v = .slice (some ⟨g, 0, none⟩) qs.length cap ∧ qs.length ≤ cap ∧ cap ≤ maxLen ∧ ∀ k, k < qs.length → w.rangeAt g (k * 3) (paC (qs.getD k pa0)) := by
  rcases h.2 with ⟨rfl, h0⟩ | ⟨g, c, cur, rfl, hb, hg, h1, h2, h3, h4⟩
  · omega
  · refine ⟨g, c, rfl, h1, h2, fun k hk j v hj => ?_⟩
    have hp := paL_get qs k j v hk hj
    have hl : k * 3 + j < (paL qs).length := (List.getElem?_eq_some_iff.1 hp).1
    have h5 : (cur.toList.take (qs.length * 3))[k * 3 + j]? = some v := by rw [h4]; exact hp
    rw [List.getElem?_take_of_lt (by rw [← paL_len]; exact hl)] at h5
    unfold World.cell?
    simp only [hg]
    simpa using h5
/-- Parameters as a law hands them on. -/
def paP (q : Pa) : Pm := ⟨q.name, q.ty, 0⟩
theorem paP_q {w : World} {g : Nat} {qs : List Pa} {n : Nat} (hn : n ≤ qs.length) (h : ∀ k, k < qs.length → w.rangeAt g (k * 3) (paC (qs.getD k pa0))) : PqW w (fun _ => True) (some ⟨g, 0, none⟩) ((qs.take n).map paP) := by
  cases hz : (qs.take n).map paP with
  | nil => exact .inl rfl
  | cons p ps =>
    rw [← hz]
    have hl : ((qs.take n).map paP).length = n := by rw [List.length_map, List.length_take]; omega
    have hp : 0 < n := by
      rw [← hl, hz]
      simp
    refine .inr ⟨g, rfl, trivial, cell_lt (h 0 (by omega) 0 _ rfl), fun k hk => ?_⟩
    have hk2 : k < qs.length := by omega
    refine ⟨(qs.getD k pa0).at_, ?_⟩
    have e : ((qs.take n).map paP).getD k pd = paP (qs.getD k pa0) := by
      rw [List.getD_eq_getElem?_getD, List.getElem?_map, List.getElem?_take_of_lt (by omega), List.getElem?_eq_getElem hk2, List.getD_eq_getElem?_getD, List.getElem?_eq_getElem hk2]
      rfl
    rw [e]
    exact h k hk2
end Go.Proofs.Ytnpigleolifcaaa
/-
  The regions of TypesKeep that draw their order.
-/
namespace Go.Proofs.Ytnpigleolifcaaa
open Go.RowKit
set_option maxRecDepth 100000

def eh0 : Oper := { dst := some 44, op := Op.load 26 (Operand.tmp 5), type := 26, pos := "law.go:128", after := #[], guard := none }
def eh1 : Oper := { dst := some 45, op := Op.move (Operand.tmp 10), type := 34, pos := "law.go:128", after := #[], guard := none }
def eh2 : Oper := { dst := some 46, op := Op.fieldAddr 26 (Operand.tmp 5) 0, type := 0, pos := "law.go:128", after := #[], guard := none }
def eh3 : Oper := { dst := some 47, op := Op.load 24 (Operand.tmp 46), type := 24, pos := "law.go:128", after := #[{ on := 2, ground := Ground.data }], guard := none }
def eh4 : Oper := { dst := some 48, op := Op.indexAddr 24 (Operand.tmp 47) (Operand.const (Value.int IntKind.i64 0)), type := 0, pos := "law.go:128", after := #[{ on := 3, ground := Ground.data }], guard := none }
def eh5 : Oper := { dst := some 49, op := Op.fieldAddr 42 (Operand.tmp 48) 3, type := 0, pos := "law.go:128", after := #[{ on := 4, ground := Ground.data }], guard := none }
def eh6 : Oper := { dst := some 50, op := Op.load 40 (Operand.tmp 49), type := 40, pos := "law.go:128", after := #[{ on := 5, ground := Ground.data }], guard := none }
def eh7 : Oper := { dst := some 51, op := Op.call { callee := Callee.value (Operand.func 13), args := #[Operand.tmp 44, Operand.tmp 45, Operand.tmp 50], argTypes := #[26, 34, 40] }, type := 43, pos := "law.go:128", after := #[{ on := 0, ground := Ground.data }, { on := 1, ground := Ground.data }, { on := 6, ground := Ground.data }], guard := none }
def ehops : Array Oper := #[eh0, eh1, eh2, eh3, eh4, eh5, eh6, eh7]
def ehsl (k : Nat) : Nat := 44 + k
def ehV (b5 G g ng c2 n cf : Nat) (x0 x1 x2 x3 x4 x5 x6 r1 r2 : Value) : Nat → Value
  | 0 => .agg #[.slice (some ⟨G, 0, none⟩) ng c2]
  | 1 => .slice (some ⟨g, 0, none⟩) n cf
  | 2 => .pointer (some ⟨b5, 0, none⟩)
  | 3 => .slice (some ⟨G, 0, none⟩) ng c2
  | 4 => .pointer (some ⟨G, 0, none⟩)
  | 5 => .pointer (some ⟨G, 3, none⟩)
  | 6 => .agg #[x0, x1, x2, x3, x4, x5, x6]
  | _ => .tuple #[r1, r2]
section
variable {Q : Exit → Act → World → Prop} {X0 w0 : World} {a0 : Act}
set_option maxHeartbeats 4000000 in
theorem keep11 {b5 G g ng c2 n cf : Nat} {x0 x1 x2 x3 x4 x5 x6 r1 r2 : Value} (_hg : 0 < ng) (hc : ∀ w, Below X0.heap.size X0 w → w.cell? ⟨b5, 0, none⟩ = some (.slice (some ⟨G, 0, none⟩) ng c2) ∧ w.cell? ⟨G, 3, none⟩ = some x0 ∧ w.cell? ⟨G, 4, none⟩ = some x1 ∧ w.cell? ⟨G, 5, none⟩ = some x2 ∧ w.cell? ⟨G, 6, none⟩ = some x3 ∧ w.cell? ⟨G, 7, none⟩ = some x4 ∧ w.cell? ⟨G, 8, none⟩ = some x5 ∧ w.cell? ⟨G, 9, none⟩ = some x6)
    (hm : ∀ w, Below X0.heap.size X0 w → Calls Try.prog 13 #[.agg #[.slice (some ⟨G, 0, none⟩) ng c2], .slice (some ⟨g, 0, none⟩) n cf, .agg #[x0, x1, x2, x3, x4, x5, x6]] w fun e w' => e = .returned (.tuple #[r1, r2]) ∧ Below w.heap.size w w') (hs : 95 ≤ a0.tmps.size)
    (e5 : Rv.ev a0 5 = .pointer (some ⟨b5, 0, none⟩))
    (e10 : Rv.ev a0 10 = .slice (some ⟨g, 0, none⟩) n cf)
    (hw : Below X0.heap.size X0 w0)
    (hQ : ∀ a w, Rv.Off 8 ehsl a0 a → Below X0.heap.size X0 w → (∀ j, j < 8 → Rv.ev a (ehsl j) = (ehV b5 G g ng c2 n cf x0 x1 x2 x3 x4 x5 x6 r1 r2) j) → Q .normal a w) :
    wpAny Try.prog .any ehops Q 8 (Array.replicate 8 false) a0 w0 := by
  refine Rv.region (X0 := X0) 8 ehsl (ehV b5 G g ng c2 n cf x0 x1 x2 x3 x4 x5 x6 r1 r2) rfl (by decide) (by decide) (fun j hj => Nat.lt_of_lt_of_le ((by decide : ∀ j, j < 8 → ehsl j < 95) j hj) hs) hw ?_ hQ
  intro i a W hi hO hW hd
  have hev : ∀ j, a.eval (.tmp j) = Rv.ev a j := fun _ => rfl
  have hcn : ∀ v, a.eval (.const v) = v := fun _ => rfl
  have hfn : ∀ v, a.eval (.func v) = .func (.func v) #[] #[] := fun _ => rfl
  have hsz : ∀ k, k < 95 → k < a.tmps.size := fun k hk => by rw [hO.size]; omega
  have g5 : Rv.ev a 5 = .pointer (some ⟨b5, 0, none⟩) := (hO.same 5 (by decide)).trans e5
  have g10 : Rv.ev a 10 = .slice (some ⟨g, 0, none⟩) n cf := (hO.same 10 (by decide)).trans e10
  obtain ⟨k0, k3, k4, k5, k6, k7, k8, k9⟩ := hc W hW
  have hN : i = 0 ∨ i = 1 ∨ i = 2 ∨ i = 3 ∨ i = 4 ∨ i = 5 ∨ i = 6 ∨ i = 7 := by omega
  rcases hN with rfl | rfl | rfl | rfl | rfl | rfl | rfl | rfl
  · exact Rv.run (o := eh0) rfl rfl (Rv.want_free rfl) (by unfold eh0; simp only [execOp, hev, g5]; go_simp <;> rfl) hW
  · exact Rv.run (o := eh1) rfl rfl (Rv.want_free rfl) (by unfold eh1; simp only [execOp, hev, g10]; rfl) hW
  · exact Rv.run (o := eh2) rfl rfl (Rv.want_free rfl) (by unfold eh2; simp only [execOp, hev, g5]; go_simp <;> rfl) hW
  · have d46 : Rv.ev a 46 = .pointer (some ⟨b5, 0, none⟩) := hd 2 (by decide)
    exact Rv.run (o := eh3) rfl rfl (Rv.want_free rfl) (by unfold eh3; simp only [execOp, hev, d46]; go_simp <;> rfl) hW
  · have d47 : Rv.ev a 47 = .slice (some ⟨G, 0, none⟩) ng c2 := hd 3 (by decide)
    exact Rv.run (o := eh4) rfl rfl (Rv.want_free rfl) (by unfold eh4; simp only [execOp, hev, hcn, d47]; go_simp <;> rfl) hW
  · have d48 : Rv.ev a 48 = .pointer (some ⟨G, 0, none⟩) := hd 4 (by decide)
    exact Rv.run (o := eh5) rfl rfl (Rv.want_free rfl) (by unfold eh5; simp only [execOp, hev, d48]; go_simp <;> rfl) hW
  · have d49 : Rv.ev a 49 = .pointer (some ⟨G, 3, none⟩) := hd 5 (by decide)
    exact Rv.run (o := eh6) rfl rfl (Rv.want_free rfl) (by unfold eh6; simp only [execOp, hev, d49]; go_simp <;> rfl) hW
  · have d44 : Rv.ev a 44 = .agg #[.slice (some ⟨G, 0, none⟩) ng c2] := hd 0 (by decide)
    have d45 : Rv.ev a 45 = .slice (some ⟨g, 0, none⟩) n cf := hd 1 (by decide)
    have d50 : Rv.ev a 50 = .agg #[x0, x1, x2, x3, x4, x5, x6] := hd 6 (by decide)
    refine Rv.call (o := eh7) (f := 13) (vs := #[.agg #[.slice (some ⟨G, 0, none⟩) ng c2], .slice (some ⟨g, 0, none⟩) n cf, .agg #[x0, x1, x2, x3, x4, x5, x6]]) rfl rfl (Rv.want_free rfl) ?_ hW (hm W hW)
    unfold eh7
    simp only [execOp, resolve, invoke, Sem.run_bind, List.map_toArray, List.map_cons, List.map_nil, hev, hfn, d44, d45, d50]
    go_simp
end
def ei0 : Oper := { dst := some 58, op := Op.move (Operand.tmp 10), type := 34, pos := "law.go:131", after := #[], guard := none }
def ei1 : Oper := { dst := some 59, op := Op.move (Operand.tmp 12), type := 3, pos := "law.go:131", after := #[], guard := none }
def ei2 : Oper := { dst := some 60, op := Op.indexAddr 34 (Operand.tmp 58) (Operand.tmp 59), type := 0, pos := "law.go:131", after := #[{ on := 0, ground := Ground.data }, { on := 1, ground := Ground.data }], guard := none }
def ei3 : Oper := { dst := some 61, op := Op.load 47 (Operand.tmp 60), type := 47, pos := "law.go:131", after := #[{ on := 2, ground := Ground.data }], guard := none }
def ei4 : Oper := { dst := some 62, op := Op.move (Operand.tmp 1), type := 34, pos := "law.go:131", after := #[], guard := none }
def ei5 : Oper := { dst := some 63, op := Op.move (Operand.tmp 12), type := 3, pos := "law.go:131", after := #[], guard := none }
def ei6 : Oper := { dst := some 64, op := Op.indexAddr 34 (Operand.tmp 62) (Operand.tmp 63), type := 0, pos := "law.go:131", after := #[{ on := 4, ground := Ground.data }, { on := 5, ground := Ground.data }], guard := none }
def ei7 : Oper := { dst := some 65, op := Op.load 47 (Operand.tmp 64), type := 47, pos := "law.go:131", after := #[{ on := 6, ground := Ground.data }], guard := none }
def ei8 : Oper := { dst := some 66, op := Op.binOp BinOp.neq 47 (Operand.tmp 61) (Operand.tmp 65) 47, type := 4, pos := "law.go:131", after := #[{ on := 3, ground := Ground.data }, { on := 7, ground := Ground.data }], guard := none }
def eiops : Array Oper := #[ei0, ei1, ei2, ei3, ei4, ei5, ei6, ei7, ei8]
def eisl (k : Nat) : Nat := 58 + k
def eiV (g n cf k bm om cm : Nat) (s : List UInt8) (t z : Int) : Nat → Value
  | 0 => .slice (some ⟨g, 0, none⟩) n cf
  | 1 => .int .i64 k
  | 2 => .pointer (some ⟨g, k * 3, none⟩)
  | 3 => .agg #[.string (bs s), .int .i64 t, .int .i64 z]
  | 4 => .slice (some ⟨bm, om, none⟩) n cm
  | 5 => .int .i64 k
  | 6 => .pointer (some ⟨bm, om + k * 3, none⟩)
  | 7 => .agg #[.string (bs s), .int .i64 t, .int .i64 z]
  | _ => .bool false
section
variable {Q : Exit → Act → World → Prop} {X0 w0 : World} {a0 : Act}
set_option maxHeartbeats 4000000 in
theorem keep15 {g n cf k bm om cm : Nat} {s : List UInt8} {t z : Int} (hk : k < n) (hc : ∀ w, Below X0.heap.size X0 w → w.cell? ⟨g, k * 3, none⟩ = some (.string (bs s)) ∧ w.cell? ⟨g, k * 3 + 1, none⟩ = some (.int .i64 t) ∧ w.cell? ⟨g, k * 3 + 2, none⟩ = some (.int .i64 z) ∧ w.cell? ⟨bm, om + k * 3, none⟩ = some (.string (bs s)) ∧ w.cell? ⟨bm, om + k * 3 + 1, none⟩ = some (.int .i64 t) ∧ w.cell? ⟨bm, om + k * 3 + 2, none⟩ = some (.int .i64 z)) (hs : 95 ≤ a0.tmps.size)
    (e10 : Rv.ev a0 10 = .slice (some ⟨g, 0, none⟩) n cf)
    (e12 : Rv.ev a0 12 = .int .i64 k)
    (e1 : Rv.ev a0 1 = .slice (some ⟨bm, om, none⟩) n cm)
    (hw : Below X0.heap.size X0 w0)
    (hQ : ∀ a w, Rv.Off 9 eisl a0 a → Below X0.heap.size X0 w → (∀ j, j < 9 → Rv.ev a (eisl j) = (eiV g n cf k bm om cm s t z) j) → Q .normal a w) :
    wpAny Try.prog .any eiops Q 9 (Array.replicate 9 false) a0 w0 := by
  refine Rv.region (X0 := X0) 9 eisl (eiV g n cf k bm om cm s t z) rfl (by decide) (by decide) (fun j hj => Nat.lt_of_lt_of_le ((by decide : ∀ j, j < 9 → eisl j < 95) j hj) hs) hw ?_ hQ
  intro i a W hi hO hW hd
  have hev : ∀ j, a.eval (.tmp j) = Rv.ev a j := fun _ => rfl
  have hcn : ∀ v, a.eval (.const v) = v := fun _ => rfl
  have hfn : ∀ v, a.eval (.func v) = .func (.func v) #[] #[] := fun _ => rfl
  have hsz : ∀ k, k < 95 → k < a.tmps.size := fun k hk => by rw [hO.size]; omega
  have g10 : Rv.ev a 10 = .slice (some ⟨g, 0, none⟩) n cf := (hO.same 10 (by decide)).trans e10
  have g12 : Rv.ev a 12 = .int .i64 k := (hO.same 12 (by decide)).trans e12
  have g1 : Rv.ev a 1 = .slice (some ⟨bm, om, none⟩) n cm := (hO.same 1 (by decide)).trans e1
  obtain ⟨k0, k1, k2, k3, k4, k5⟩ := hc W hW
  have hN : i = 0 ∨ i = 1 ∨ i = 2 ∨ i = 3 ∨ i = 4 ∨ i = 5 ∨ i = 6 ∨ i = 7 ∨ i = 8 := by omega
  rcases hN with rfl | rfl | rfl | rfl | rfl | rfl | rfl | rfl | rfl
  · exact Rv.run (o := ei0) rfl rfl (Rv.want_free rfl) (by unfold ei0; simp only [execOp, hev, g10]; rfl) hW
  · exact Rv.run (o := ei1) rfl rfl (Rv.want_free rfl) (by unfold ei1; simp only [execOp, hev, g12]; rfl) hW
  · have d58 : Rv.ev a 58 = .slice (some ⟨g, 0, none⟩) n cf := hd 0 (by decide)
    have d59 : Rv.ev a 59 = .int .i64 k := hd 1 (by decide)
    exact Rv.run (o := ei2) rfl rfl (Rv.want_free rfl) (by unfold ei2; simp only [execOp, hev, d58, d59]; go_simp <;> rfl) hW
  · have d60 : Rv.ev a 60 = .pointer (some ⟨g, k * 3, none⟩) := hd 2 (by decide)
    exact Rv.run (o := ei3) rfl rfl (Rv.want_free rfl) (by unfold ei3; simp only [execOp, hev, d60]; go_simp <;> rfl) hW
  · exact Rv.run (o := ei4) rfl rfl (Rv.want_free rfl) (by unfold ei4; simp only [execOp, hev, g1]; rfl) hW
  · exact Rv.run (o := ei5) rfl rfl (Rv.want_free rfl) (by unfold ei5; simp only [execOp, hev, g12]; rfl) hW
  · have d62 : Rv.ev a 62 = .slice (some ⟨bm, om, none⟩) n cm := hd 4 (by decide)
    have d63 : Rv.ev a 63 = .int .i64 k := hd 5 (by decide)
    exact Rv.run (o := ei6) rfl rfl (Rv.want_free rfl) (by unfold ei6; simp only [execOp, hev, d62, d63]; go_simp <;> rfl) hW
  · have d64 : Rv.ev a 64 = .pointer (some ⟨bm, om + k * 3, none⟩) := hd 6 (by decide)
    exact Rv.run (o := ei7) rfl rfl (Rv.want_free rfl) (by unfold ei7; simp only [execOp, hev, d64]; go_simp <;> rfl) hW
  · have d61 : Rv.ev a 61 = .agg #[.string (bs s), .int .i64 t, .int .i64 z] := hd 3 (by decide)
    have d65 : Rv.ev a 65 = .agg #[.string (bs s), .int .i64 t, .int .i64 z] := hd 7 (by decide)
    exact Rv.run (o := ei8) rfl rfl (Rv.want_free rfl) (by unfold ei8; simp only [execOp, hev, d61, d65]; go_simp <;> rfl) hW
end
def ej0 : Oper := { dst := some 67, op := Op.move (Operand.tmp 9), type := 34, pos := "law.go:135", after := #[], guard := none }
def ej1 : Oper := { dst := some 68, op := Op.move (Operand.tmp 1), type := 34, pos := "law.go:135", after := #[], guard := none }
def ej2 : Oper := { dst := some 69, op := Op.call { callee := Callee.builtin Builtin.len, args := #[Operand.tmp 68], argTypes := #[34] }, type := 3, pos := "law.go:135", after := #[{ on := 1, ground := Ground.data }], guard := none }
def ej3 : Oper := { dst := some 70, op := Op.indexAddr 34 (Operand.tmp 67) (Operand.tmp 69), type := 0, pos := "law.go:135", after := #[{ on := 0, ground := Ground.data }, { on := 2, ground := Ground.data }], guard := none }
def ej4 : Oper := { dst := some 71, op := Op.fieldAddr 47 (Operand.tmp 70) 0, type := 0, pos := "law.go:135", after := #[{ on := 3, ground := Ground.data }], guard := none }
def ej5 : Oper := { dst := some 72, op := Op.load 9 (Operand.tmp 71), type := 9, pos := "law.go:135", after := #[{ on := 4, ground := Ground.data }], guard := none }
def ej6 : Oper := { dst := some 73, op := Op.binOp BinOp.eql 9 (Operand.tmp 72) (Operand.const (Value.string { data := #[114, 111, 111, 109] })) 9, type := 4, pos := "law.go:135", after := #[{ on := 5, ground := Ground.data }], guard := none }
def ej7 : Oper := { dst := some 74, op := Op.move (Operand.tmp 73), type := 4, pos := "law.go:135", after := #[{ on := 6, ground := Ground.data }], guard := none }
def ej8 : Oper := { dst := some 75, op := Op.move (Operand.tmp 9), type := 34, pos := "law.go:135", after := #[{ on := 7, ground := Ground.guard }], guard := some (7, true) }
def ej9 : Oper := { dst := some 76, op := Op.move (Operand.tmp 1), type := 34, pos := "law.go:135", after := #[{ on := 7, ground := Ground.guard }], guard := some (7, true) }
def ej10 : Oper := { dst := some 77, op := Op.call { callee := Callee.builtin Builtin.len, args := #[Operand.tmp 76], argTypes := #[34] }, type := 3, pos := "law.go:135", after := #[{ on := 9, ground := Ground.data }, { on := 7, ground := Ground.guard }], guard := some (7, true) }
def ej11 : Oper := { dst := some 78, op := Op.binOp BinOp.add 3 (Operand.tmp 77) (Operand.const (Value.int IntKind.i64 1)) 3, type := 3, pos := "law.go:135", after := #[{ on := 10, ground := Ground.data }, { on := 7, ground := Ground.guard }], guard := some (7, true) }
def ej12 : Oper := { dst := some 79, op := Op.indexAddr 34 (Operand.tmp 75) (Operand.tmp 78), type := 0, pos := "law.go:135", after := #[{ on := 8, ground := Ground.data }, { on := 11, ground := Ground.data }, { on := 7, ground := Ground.guard }], guard := some (7, true) }
def ej13 : Oper := { dst := some 80, op := Op.fieldAddr 47 (Operand.tmp 79) 0, type := 0, pos := "law.go:135", after := #[{ on := 12, ground := Ground.data }, { on := 7, ground := Ground.guard }], guard := some (7, true) }
def ej14 : Oper := { dst := some 81, op := Op.load 9 (Operand.tmp 80), type := 9, pos := "law.go:135", after := #[{ on := 13, ground := Ground.data }, { on := 7, ground := Ground.guard }], guard := some (7, true) }
def ej15 : Oper := { dst := some 82, op := Op.binOp BinOp.eql 9 (Operand.tmp 81) (Operand.const (Value.string { data := #[114, 111, 111, 109] })) 9, type := 4, pos := "law.go:135", after := #[{ on := 14, ground := Ground.data }, { on := 7, ground := Ground.guard }], guard := some (7, true) }
def ej16 : Oper := { dst := some 83, op := Op.pick (Operand.tmp 74) (Operand.tmp 82) (Operand.const (Value.bool false)), type := 4, pos := "law.go:135", after := #[{ on := 7, ground := Ground.data }, { on := 15, ground := Ground.data }], guard := none }
def ej17 : Oper := { dst := some 84, op := Op.move (Operand.tmp 83), type := 4, pos := "law.go:135", after := #[{ on := 16, ground := Ground.data }, { on := 7, ground := Ground.chain }], guard := none }
def ej18 : Oper := { dst := some 85, op := Op.load 26 (Operand.tmp 5), type := 26, pos := "law.go:135", after := #[{ on := 17, ground := Ground.guard }], guard := some (17, true) }
def ej19 : Oper := { dst := some 86, op := Op.load 26 (Operand.tmp 7), type := 26, pos := "law.go:135", after := #[{ on := 17, ground := Ground.guard }], guard := some (17, true) }
def ej20 : Oper := { dst := some 87, op := Op.call { callee := Callee.value (Operand.func 14), args := #[Operand.tmp 85, Operand.tmp 86, Operand.const (Value.bool true)], argTypes := #[26, 26, 4] }, type := 4, pos := "law.go:135", after := #[{ on := 18, ground := Ground.data }, { on := 19, ground := Ground.data }, { on := 17, ground := Ground.chain }, { on := 17, ground := Ground.guard }], guard := some (17, true) }
def ej21 : Oper := { dst := some 88, op := Op.pick (Operand.tmp 84) (Operand.tmp 87) (Operand.const (Value.bool false)), type := 4, pos := "law.go:135", after := #[{ on := 17, ground := Ground.data }, { on := 20, ground := Ground.data }], guard := none }
def ej22 : Oper := { dst := some 89, op := Op.move (Operand.tmp 88), type := 4, pos := "law.go:135", after := #[{ on := 21, ground := Ground.data }, { on := 20, ground := Ground.chain }], guard := none }
def ej23 : Oper := { dst := some 90, op := Op.load 26 (Operand.tmp 5), type := 26, pos := "law.go:135", after := #[{ on := 22, ground := Ground.guard }], guard := some (22, true) }
def ej24 : Oper := { dst := some 91, op := Op.call { callee := Callee.value (Operand.func 10), args := #[Operand.tmp 90], argTypes := #[26] }, type := 31, pos := "law.go:135", after := #[{ on := 23, ground := Ground.data }, { on := 22, ground := Ground.chain }, { on := 22, ground := Ground.guard }], guard := some (22, true) }
def ej25 : Oper := { dst := some 92, op := Op.load 31 (Operand.tmp 11), type := 31, pos := "law.go:135", after := #[{ on := 22, ground := Ground.guard }], guard := some (22, true) }
def ej26 : Oper := { dst := some 93, op := Op.binOp BinOp.eql 31 (Operand.tmp 91) (Operand.tmp 92) 31, type := 4, pos := "law.go:135", after := #[{ on := 24, ground := Ground.data }, { on := 25, ground := Ground.data }, { on := 22, ground := Ground.guard }], guard := some (22, true) }
def ej27 : Oper := { dst := some 94, op := Op.pick (Operand.tmp 89) (Operand.tmp 93) (Operand.const (Value.bool false)), type := 4, pos := "law.go:135", after := #[{ on := 22, ground := Ground.data }, { on := 26, ground := Ground.data }], guard := none }
def ej28 : Oper := { dst := some 4, op := Op.assign (Operand.tmp 94), type := 4, pos := "law.go:135", after := #[{ on := 27, ground := Ground.data }, { on := 24, ground := Ground.chain }, { on := 0, ground := Ground.phase }, { on := 1, ground := Ground.phase }, { on := 2, ground := Ground.phase }, { on := 3, ground := Ground.phase }, { on := 4, ground := Ground.phase }, { on := 5, ground := Ground.phase }, { on := 6, ground := Ground.phase }, { on := 7, ground := Ground.phase }, { on := 8, ground := Ground.phase }, { on := 9, ground := Ground.phase }, { on := 10, ground := Ground.phase }, { on := 11, ground := Ground.phase }, { on := 12, ground := Ground.phase }, { on := 13, ground := Ground.phase }, { on := 14, ground := Ground.phase }, { on := 15, ground := Ground.phase }, { on := 16, ground := Ground.phase }, { on := 17, ground := Ground.phase }, { on := 18, ground := Ground.phase }, { on := 19, ground := Ground.phase }, { on := 20, ground := Ground.phase }, { on := 21, ground := Ground.phase }, { on := 22, ground := Ground.phase }, { on := 23, ground := Ground.phase }, { on := 24, ground := Ground.phase }, { on := 25, ground := Ground.phase }, { on := 26, ground := Ground.phase }, { on := 27, ground := Ground.phase }], guard := none }
def ejops : Array Oper := #[ej0, ej1, ej2, ej3, ej4, ej5, ej6, ej7, ej8, ej9, ej10, ej11, ej12, ej13, ej14, ej15, ej16, ej17, ej18, ej19, ej20, ej21, ej22, ej23, ej24, ej25, ej26, ej27, ej28]
def ejsl (k : Nat) : Nat := if k = 28 then 4 else 67 + k
def ejV (g N cf n cm m ng c2 c4 : Nat) (am a2 a4 : Option Addr) (zy za : Int) : Nat → Value
  | 0 => .slice (some ⟨g, 0, none⟩) N cf
  | 1 => .slice am n cm
  | 2 => .int .i64 n
  | 3 => .pointer (some ⟨g, n * 3, none⟩)
  | 4 => .pointer (some ⟨g, n * 3, none⟩)
  | 5 => .string ⟨#[114, 111, 111, 109]⟩
  | 6 => .bool true
  | 7 => .bool true
  | 8 => .slice (some ⟨g, 0, none⟩) N cf
  | 9 => .slice am n cm
  | 10 => .int .i64 n
  | 11 => .int .i64 m
  | 12 => .pointer (some ⟨g, m * 3, none⟩)
  | 13 => .pointer (some ⟨g, m * 3, none⟩)
  | 14 => .string ⟨#[114, 111, 111, 109]⟩
  | 15 => .bool true
  | 16 => .bool true
  | 17 => .bool true
  | 18 => .agg #[.slice a2 ng c2]
  | 19 => .agg #[.slice a4 ng c4]
  | 20 => .bool true
  | 21 => .bool true
  | 22 => .bool true
  | 23 => .agg #[.slice a2 ng c2]
  | 24 => .agg #[.int .i64 zy, .int .i64 za]
  | 25 => .agg #[.int .i64 zy, .int .i64 za]
  | 26 => .bool true
  | 27 => .bool true
  | _ => .bool true
section
variable {Q : Exit → Act → World → Prop} {X0 w0 : World} {a0 : Act}
set_option maxHeartbeats 4000000 in
theorem keep17 {g N cf n cm m b5 b7 b11 ng c2 c4 : Nat} {am a2 a4 : Option Addr} {zy za : Int} (hN : n < N) (hM : m < N) (hm : ((n : Int) + 1) = (m : Int)) (hm63 : m ≤ 4611686018427387904) (hc : ∀ w, Below X0.heap.size X0 w → w.cell? ⟨g, n * 3, none⟩ = some (.string ⟨#[114, 111, 111, 109]⟩) ∧ w.cell? ⟨g, m * 3, none⟩ = some (.string ⟨#[114, 111, 111, 109]⟩) ∧ w.cell? ⟨b5, 0, none⟩ = some (.slice a2 ng c2) ∧ w.cell? ⟨b7, 0, none⟩ = some (.slice a4 ng c4) ∧ w.cell? ⟨b11, 0, none⟩ = some (.int .i64 zy) ∧ w.cell? ⟨b11, 1, none⟩ = some (.int .i64 za))
    (hs1 : ∀ w, Below X0.heap.size X0 w → Calls Try.prog 14 #[.agg #[.slice a2 ng c2], .agg #[.slice a4 ng c4], .bool true] w fun e w' => e = .returned (.bool true) ∧ Below w.heap.size w w')
    (hs2 : ∀ w, Below X0.heap.size X0 w → Calls Try.prog 10 #[.agg #[.slice a2 ng c2]] w fun e w' => e = .returned (.agg #[.int .i64 zy, .int .i64 za]) ∧ Below w.heap.size w w') (hs : 95 ≤ a0.tmps.size)
    (e9 : Rv.ev a0 9 = .slice (some ⟨g, 0, none⟩) N cf)
    (e1 : Rv.ev a0 1 = .slice am n cm)
    (e5 : Rv.ev a0 5 = .pointer (some ⟨b5, 0, none⟩))
    (e7 : Rv.ev a0 7 = .pointer (some ⟨b7, 0, none⟩))
    (e11 : Rv.ev a0 11 = .pointer (some ⟨b11, 0, none⟩))
    (hw : Below X0.heap.size X0 w0)
    (hQ : ∀ a w, Rv.Off 29 ejsl a0 a → Below X0.heap.size X0 w → (∀ j, j < 29 → Rv.ev a (ejsl j) = (ejV g N cf n cm m ng c2 c4 am a2 a4 zy za) j) → Q .normal a w) :
    wpAny Try.prog .any ejops Q 29 (Array.replicate 29 false) a0 w0 := by
  refine Rv.region (X0 := X0) 29 ejsl (ejV g N cf n cm m ng c2 c4 am a2 a4 zy za) rfl (by decide) (by decide) (fun j hj => Nat.lt_of_lt_of_le ((by decide : ∀ j, j < 29 → ejsl j < 95) j hj) hs) hw ?_ hQ
  intro i a W hi hO hW hd
  have hev : ∀ j, a.eval (.tmp j) = Rv.ev a j := fun _ => rfl
  have hcn : ∀ v, a.eval (.const v) = v := fun _ => rfl
  have hfn : ∀ v, a.eval (.func v) = .func (.func v) #[] #[] := fun _ => rfl
  have hsz : ∀ k, k < 95 → k < a.tmps.size := fun k hk => by rw [hO.size]; omega
  have g9 : Rv.ev a 9 = .slice (some ⟨g, 0, none⟩) N cf := (hO.same 9 (by decide)).trans e9
  have g1 : Rv.ev a 1 = .slice am n cm := (hO.same 1 (by decide)).trans e1
  have g5 : Rv.ev a 5 = .pointer (some ⟨b5, 0, none⟩) := (hO.same 5 (by decide)).trans e5
  have g7 : Rv.ev a 7 = .pointer (some ⟨b7, 0, none⟩) := (hO.same 7 (by decide)).trans e7
  have g11 : Rv.ev a 11 = .pointer (some ⟨b11, 0, none⟩) := (hO.same 11 (by decide)).trans e11
  obtain ⟨k0, k1, k2, k3, k4, k5⟩ := hc W hW
  have hw1 : IntKind.i64.wrap (m : Int) = (m : Int) := by simp [IntKind.wrap, IntKind.bits, IntKind.signed]; omega
  have hN : i = 0 ∨ i = 1 ∨ i = 2 ∨ i = 3 ∨ i = 4 ∨ i = 5 ∨ i = 6 ∨ i = 7 ∨ i = 8 ∨ i = 9 ∨ i = 10 ∨ i = 11 ∨ i = 12 ∨ i = 13 ∨ i = 14 ∨ i = 15 ∨ i = 16 ∨ i = 17 ∨ i = 18 ∨ i = 19 ∨ i = 20 ∨ i = 21 ∨ i = 22 ∨ i = 23 ∨ i = 24 ∨ i = 25 ∨ i = 26 ∨ i = 27 ∨ i = 28 := by omega
  rcases hN with rfl | rfl | rfl | rfl | rfl | rfl | rfl | rfl | rfl | rfl | rfl | rfl | rfl | rfl | rfl | rfl | rfl | rfl | rfl | rfl | rfl | rfl | rfl | rfl | rfl | rfl | rfl | rfl | rfl
  · exact Rv.run (o := ej0) rfl rfl (Rv.want_free rfl) (by unfold ej0; simp only [execOp, hev, g9]; rfl) hW
  · exact Rv.run (o := ej1) rfl rfl (Rv.want_free rfl) (by unfold ej1; simp only [execOp, hev, g1]; rfl) hW
  · have d68 : Rv.ev a 68 = .slice am n cm := hd 1 (by decide)
    exact Rv.run (o := ej2) rfl rfl (Rv.want_free rfl) (by unfold ej2; simp only [execOp, resolve, invoke, builtin, Sem.run_bind, Sem.run_pure, List.map_toArray, List.map_cons, List.map_nil, hev, d68]; go_simp <;> rfl) hW
  · have d67 : Rv.ev a 67 = .slice (some ⟨g, 0, none⟩) N cf := hd 0 (by decide)
    have d69 : Rv.ev a 69 = .int .i64 n := hd 2 (by decide)
    exact Rv.run (o := ej3) rfl rfl (Rv.want_free rfl) (by unfold ej3; simp only [execOp, hev, d67, d69]; go_simp <;> rfl) hW
  · have d70 : Rv.ev a 70 = .pointer (some ⟨g, n * 3, none⟩) := hd 3 (by decide)
    exact Rv.run (o := ej4) rfl rfl (Rv.want_free rfl) (by unfold ej4; simp only [execOp, hev, d70]; go_simp <;> rfl) hW
  · have d71 : Rv.ev a 71 = .pointer (some ⟨g, n * 3, none⟩) := hd 4 (by decide)
    exact Rv.run (o := ej5) rfl rfl (Rv.want_free rfl) (by unfold ej5; simp only [execOp, hev, d71]; go_simp <;> rfl) hW
  · have d72 : Rv.ev a 72 = .string ⟨#[114, 111, 111, 109]⟩ := hd 5 (by decide)
    exact Rv.run (o := ej6) rfl rfl (Rv.want_free rfl) (by unfold ej6; simp only [execOp, hev, hcn, d72]; go_simp <;> rfl) hW
  · have d73 : Rv.ev a 73 = .bool true := hd 6 (by decide)
    exact Rv.run (o := ej7) rfl rfl (Rv.want_free rfl) (by unfold ej7; simp only [execOp, hev, d73]; rfl) hW
  · have dg : Rv.ev a 74 = .bool true := hd 7 (by decide)
    exact Rv.run (o := ej8) rfl rfl (by rw [Rv.want_if (o' := ej7) rfl rfl rfl (hsz 74 (by decide)) dg]; first | rfl | simp) (by unfold ej8; simp only [execOp, hev, g9]; rfl) hW
  · have dg : Rv.ev a 74 = .bool true := hd 7 (by decide)
    exact Rv.run (o := ej9) rfl rfl (by rw [Rv.want_if (o' := ej7) rfl rfl rfl (hsz 74 (by decide)) dg]; first | rfl | simp) (by unfold ej9; simp only [execOp, hev, g1]; rfl) hW
  · have d76 : Rv.ev a 76 = .slice am n cm := hd 9 (by decide)
    have dg : Rv.ev a 74 = .bool true := hd 7 (by decide)
    exact Rv.run (o := ej10) rfl rfl (by rw [Rv.want_if (o' := ej7) rfl rfl rfl (hsz 74 (by decide)) dg]; first | rfl | simp) (by unfold ej10; simp only [execOp, resolve, invoke, builtin, Sem.run_bind, Sem.run_pure, List.map_toArray, List.map_cons, List.map_nil, hev, d76]; go_simp <;> rfl) hW
  · have d77 : Rv.ev a 77 = .int .i64 n := hd 10 (by decide)
    have dg : Rv.ev a 74 = .bool true := hd 7 (by decide)
    exact Rv.run (o := ej11) rfl rfl (by rw [Rv.want_if (o' := ej7) rfl rfl rfl (hsz 74 (by decide)) dg]; first | rfl | simp) (by unfold ej11; simp only [execOp, hev, hcn, d77]; go_simp <;> rfl) hW
  · have d75 : Rv.ev a 75 = .slice (some ⟨g, 0, none⟩) N cf := hd 8 (by decide)
    have d78 : Rv.ev a 78 = .int .i64 m := hd 11 (by decide)
    have dg : Rv.ev a 74 = .bool true := hd 7 (by decide)
    exact Rv.run (o := ej12) rfl rfl (by rw [Rv.want_if (o' := ej7) rfl rfl rfl (hsz 74 (by decide)) dg]; first | rfl | simp) (by unfold ej12; simp only [execOp, hev, d75, d78]; go_simp <;> rfl) hW
  · have d79 : Rv.ev a 79 = .pointer (some ⟨g, m * 3, none⟩) := hd 12 (by decide)
    have dg : Rv.ev a 74 = .bool true := hd 7 (by decide)
    exact Rv.run (o := ej13) rfl rfl (by rw [Rv.want_if (o' := ej7) rfl rfl rfl (hsz 74 (by decide)) dg]; first | rfl | simp) (by unfold ej13; simp only [execOp, hev, d79]; go_simp <;> rfl) hW
  · have d80 : Rv.ev a 80 = .pointer (some ⟨g, m * 3, none⟩) := hd 13 (by decide)
    have dg : Rv.ev a 74 = .bool true := hd 7 (by decide)
    exact Rv.run (o := ej14) rfl rfl (by rw [Rv.want_if (o' := ej7) rfl rfl rfl (hsz 74 (by decide)) dg]; first | rfl | simp) (by unfold ej14; simp only [execOp, hev, d80]; go_simp <;> rfl) hW
  · have d81 : Rv.ev a 81 = .string ⟨#[114, 111, 111, 109]⟩ := hd 14 (by decide)
    have dg : Rv.ev a 74 = .bool true := hd 7 (by decide)
    exact Rv.run (o := ej15) rfl rfl (by rw [Rv.want_if (o' := ej7) rfl rfl rfl (hsz 74 (by decide)) dg]; first | rfl | simp) (by unfold ej15; simp only [execOp, hev, hcn, d81]; go_simp <;> rfl) hW
  · have d74 : Rv.ev a 74 = .bool true := hd 7 (by decide)
    have d82 : Rv.ev a 82 = .bool true := hd 15 (by decide)
    exact Rv.run (o := ej16) rfl rfl (Rv.want_free rfl) (by unfold ej16; simp only [execOp, hev, hcn, d74, d82]; go_simp <;> rfl) hW
  · have d83 : Rv.ev a 83 = .bool true := hd 16 (by decide)
    exact Rv.run (o := ej17) rfl rfl (Rv.want_free rfl) (by unfold ej17; simp only [execOp, hev, d83]; rfl) hW
  · have dg : Rv.ev a 84 = .bool true := hd 17 (by decide)
    exact Rv.run (o := ej18) rfl rfl (by rw [Rv.want_if (o' := ej17) rfl rfl rfl (hsz 84 (by decide)) dg]; first | rfl | simp) (by unfold ej18; simp only [execOp, hev, g5]; go_simp <;> rfl) hW
  · have dg : Rv.ev a 84 = .bool true := hd 17 (by decide)
    exact Rv.run (o := ej19) rfl rfl (by rw [Rv.want_if (o' := ej17) rfl rfl rfl (hsz 84 (by decide)) dg]; first | rfl | simp) (by unfold ej19; simp only [execOp, hev, g7]; go_simp <;> rfl) hW
  · have d85 : Rv.ev a 85 = .agg #[.slice a2 ng c2] := hd 18 (by decide)
    have d86 : Rv.ev a 86 = .agg #[.slice a4 ng c4] := hd 19 (by decide)
    have dg : Rv.ev a 84 = .bool true := hd 17 (by decide)
    refine Rv.call (o := ej20) (f := 14) (vs := #[.agg #[.slice a2 ng c2], .agg #[.slice a4 ng c4], .bool true]) rfl rfl (by rw [Rv.want_if (o' := ej17) rfl rfl rfl (hsz 84 (by decide)) dg]; first | rfl | simp) ?_ hW (hs1 W hW)
    unfold ej20
    simp only [execOp, resolve, invoke, Sem.run_bind, List.map_toArray, List.map_cons, List.map_nil, hev, hcn, hfn, d85, d86]
    go_simp
  · have d84 : Rv.ev a 84 = .bool true := hd 17 (by decide)
    have d87 : Rv.ev a 87 = .bool true := hd 20 (by decide)
    exact Rv.run (o := ej21) rfl rfl (Rv.want_free rfl) (by unfold ej21; simp only [execOp, hev, hcn, d84, d87]; go_simp <;> rfl) hW
  · have d88 : Rv.ev a 88 = .bool true := hd 21 (by decide)
    exact Rv.run (o := ej22) rfl rfl (Rv.want_free rfl) (by unfold ej22; simp only [execOp, hev, d88]; rfl) hW
  · have dg : Rv.ev a 89 = .bool true := hd 22 (by decide)
    exact Rv.run (o := ej23) rfl rfl (by rw [Rv.want_if (o' := ej22) rfl rfl rfl (hsz 89 (by decide)) dg]; first | rfl | simp) (by unfold ej23; simp only [execOp, hev, g5]; go_simp <;> rfl) hW
  · have d90 : Rv.ev a 90 = .agg #[.slice a2 ng c2] := hd 23 (by decide)
    have dg : Rv.ev a 89 = .bool true := hd 22 (by decide)
    refine Rv.call (o := ej24) (f := 10) (vs := #[.agg #[.slice a2 ng c2]]) rfl rfl (by rw [Rv.want_if (o' := ej22) rfl rfl rfl (hsz 89 (by decide)) dg]; first | rfl | simp) ?_ hW (hs2 W hW)
    unfold ej24
    simp only [execOp, resolve, invoke, Sem.run_bind, List.map_toArray, List.map_cons, List.map_nil, hev, hfn, d90]
    go_simp
  · have dg : Rv.ev a 89 = .bool true := hd 22 (by decide)
    exact Rv.run (o := ej25) rfl rfl (by rw [Rv.want_if (o' := ej22) rfl rfl rfl (hsz 89 (by decide)) dg]; first | rfl | simp) (by unfold ej25; simp only [execOp, hev, g11]; go_simp <;> rfl) hW
  · have d91 : Rv.ev a 91 = .agg #[.int .i64 zy, .int .i64 za] := hd 24 (by decide)
    have d92 : Rv.ev a 92 = .agg #[.int .i64 zy, .int .i64 za] := hd 25 (by decide)
    have dg : Rv.ev a 89 = .bool true := hd 22 (by decide)
    exact Rv.run (o := ej26) rfl rfl (by rw [Rv.want_if (o' := ej22) rfl rfl rfl (hsz 89 (by decide)) dg]; first | rfl | simp) (by unfold ej26; simp only [execOp, hev, d91, d92]; go_simp <;> rfl) hW
  · have d89 : Rv.ev a 89 = .bool true := hd 22 (by decide)
    have d93 : Rv.ev a 93 = .bool true := hd 26 (by decide)
    exact Rv.run (o := ej27) rfl rfl (Rv.want_free rfl) (by unfold ej27; simp only [execOp, hev, hcn, d89, d93]; go_simp <;> rfl) hW
  · have d94 : Rv.ev a 94 = .bool true := hd 27 (by decide)
    exact Rv.run (o := ej28) rfl rfl (Rv.want_free rfl) (by unfold ej28; simp only [execOp, hev, d94]; rfl) hW
end
theorem lit95 (f : Nat → Value) : ((List.range 95).map f).toArray = #[f 0, f 1, f 2, f 3, f 4, f 5, f 6, f 7, f 8, f 9, f 10, f 11, f 12, f 13, f 14, f 15, f 16, f 17, f 18, f 19, f 20, f 21, f 22, f 23, f 24, f 25, f 26, f 27, f 28, f 29, f 30, f 31, f 32, f 33, f 34, f 35, f 36, f 37, f 38, f 39, f 40, f 41, f 42, f 43, f 44, f 45, f 46, f 47, f 48, f 49, f 50, f 51, f 52, f 53, f 54, f 55, f 56, f 57, f 58, f 59, f 60, f 61, f 62, f 63, f 64, f 65, f 66, f 67, f 68, f 69, f 70, f 71, f 72, f 73, f 74, f 75, f 76, f 77, f 78, f 79, f 80, f 81, f 82, f 83, f 84, f 85, f 86, f 87, f 88, f 89, f 90, f 91, f 92, f 93, f 94] := rfl
theorem tmps95 (a : Act) (h : a.tmps.size = 95) : a.tmps = ((List.range 95).map (Rv.ev a)).toArray := by
  apply Array.ext
  · simp [h]
  · intro i h1 h2
    simp [Rv.ev, Act.eval, h1]
theorem offH {x0 x1 x2 x3 x4 x5 x6 x7 x8 x9 x10 x11 x12 x13 x14 x15 x16 x17 x18 x19 x20 x21 x22 x23 x24 x25 x26 x27 x28 x29 x30 x31 x32 x33 x34 x35 x36 x37 x38 x39 x40 x41 x42 x43 x44 x45 x46 x47 x48 x49 x50 x51 x52 x53 x54 x55 x56 x57 x58 x59 x60 x61 x62 x63 x64 x65 x66 x67 x68 x69 x70 x71 x72 x73 x74 x75 x76 x77 x78 x79 x80 x81 x82 x83 x84 x85 x86 x87 x88 x89 x90 x91 x92 x93 x94 : Value} {a : Act} (h : Rv.Off 8 ehsl { tmps := #[x0, x1, x2, x3, x4, x5, x6, x7, x8, x9, x10, x11, x12, x13, x14, x15, x16, x17, x18, x19, x20, x21, x22, x23, x24, x25, x26, x27, x28, x29, x30, x31, x32, x33, x34, x35, x36, x37, x38, x39, x40, x41, x42, x43, x44, x45, x46, x47, x48, x49, x50, x51, x52, x53, x54, x55, x56, x57, x58, x59, x60, x61, x62, x63, x64, x65, x66, x67, x68, x69, x70, x71, x72, x73, x74, x75, x76, x77, x78, x79, x80, x81, x82, x83, x84, x85, x86, x87, x88, x89, x90, x91, x92, x93, x94], defers := [] } a) : ∃ y44 y45 y46 y47 y48 y49 y50 y51, (Rv.ev a 44 = y44 ∧ Rv.ev a 45 = y45 ∧ Rv.ev a 46 = y46 ∧ Rv.ev a 47 = y47 ∧ Rv.ev a 48 = y48 ∧ Rv.ev a 49 = y49 ∧ Rv.ev a 50 = y50 ∧ Rv.ev a 51 = y51) ∧ a = { tmps := #[x0, x1, x2, x3, x4, x5, x6, x7, x8, x9, x10, x11, x12, x13, x14, x15, x16, x17, x18, x19, x20, x21, x22, x23, x24, x25, x26, x27, x28, x29, x30, x31, x32, x33, x34, x35, x36, x37, x38, x39, x40, x41, x42, x43, y44, y45, y46, y47, y48, y49, y50, y51, x52, x53, x54, x55, x56, x57, x58, x59, x60, x61, x62, x63, x64, x65, x66, x67, x68, x69, x70, x71, x72, x73, x74, x75, x76, x77, x78, x79, x80, x81, x82, x83, x84, x85, x86, x87, x88, x89, x90, x91, x92, x93, x94], defers := [] } := by
  refine ⟨Rv.ev a 44, Rv.ev a 45, Rv.ev a 46, Rv.ev a 47, Rv.ev a 48, Rv.ev a 49, Rv.ev a 50, Rv.ev a 51, ⟨rfl, rfl, rfl, rfl, rfl, rfl, rfl, rfl⟩, ?_⟩
  have e := tmps95 a h.size
  rw [lit95] at e
  have h0 : Rv.ev a 0 = x0 := h.same 0 (by decide)
  have h1 : Rv.ev a 1 = x1 := h.same 1 (by decide)
  have h2 : Rv.ev a 2 = x2 := h.same 2 (by decide)
  have h3 : Rv.ev a 3 = x3 := h.same 3 (by decide)
  have h4 : Rv.ev a 4 = x4 := h.same 4 (by decide)
  have h5 : Rv.ev a 5 = x5 := h.same 5 (by decide)
  have h6 : Rv.ev a 6 = x6 := h.same 6 (by decide)
  have h7 : Rv.ev a 7 = x7 := h.same 7 (by decide)
  have h8 : Rv.ev a 8 = x8 := h.same 8 (by decide)
  have h9 : Rv.ev a 9 = x9 := h.same 9 (by decide)
  have h10 : Rv.ev a 10 = x10 := h.same 10 (by decide)
  have h11 : Rv.ev a 11 = x11 := h.same 11 (by decide)
  have h12 : Rv.ev a 12 = x12 := h.same 12 (by decide)
  have h13 : Rv.ev a 13 = x13 := h.same 13 (by decide)
  have h14 : Rv.ev a 14 = x14 := h.same 14 (by decide)
  have h15 : Rv.ev a 15 = x15 := h.same 15 (by decide)
  have h16 : Rv.ev a 16 = x16 := h.same 16 (by decide)
  have h17 : Rv.ev a 17 = x17 := h.same 17 (by decide)
  have h18 : Rv.ev a 18 = x18 := h.same 18 (by decide)
  have h19 : Rv.ev a 19 = x19 := h.same 19 (by decide)
  have h20 : Rv.ev a 20 = x20 := h.same 20 (by decide)
  have h21 : Rv.ev a 21 = x21 := h.same 21 (by decide)
  have h22 : Rv.ev a 22 = x22 := h.same 22 (by decide)
  have h23 : Rv.ev a 23 = x23 := h.same 23 (by decide)
  have h24 : Rv.ev a 24 = x24 := h.same 24 (by decide)
  have h25 : Rv.ev a 25 = x25 := h.same 25 (by decide)
  have h26 : Rv.ev a 26 = x26 := h.same 26 (by decide)
  have h27 : Rv.ev a 27 = x27 := h.same 27 (by decide)
  have h28 : Rv.ev a 28 = x28 := h.same 28 (by decide)
  have h29 : Rv.ev a 29 = x29 := h.same 29 (by decide)
  have h30 : Rv.ev a 30 = x30 := h.same 30 (by decide)
  have h31 : Rv.ev a 31 = x31 := h.same 31 (by decide)
  have h32 : Rv.ev a 32 = x32 := h.same 32 (by decide)
  have h33 : Rv.ev a 33 = x33 := h.same 33 (by decide)
  have h34 : Rv.ev a 34 = x34 := h.same 34 (by decide)
  have h35 : Rv.ev a 35 = x35 := h.same 35 (by decide)
  have h36 : Rv.ev a 36 = x36 := h.same 36 (by decide)
  have h37 : Rv.ev a 37 = x37 := h.same 37 (by decide)
  have h38 : Rv.ev a 38 = x38 := h.same 38 (by decide)
  have h39 : Rv.ev a 39 = x39 := h.same 39 (by decide)
  have h40 : Rv.ev a 40 = x40 := h.same 40 (by decide)
  have h41 : Rv.ev a 41 = x41 := h.same 41 (by decide)
  have h42 : Rv.ev a 42 = x42 := h.same 42 (by decide)
  have h43 : Rv.ev a 43 = x43 := h.same 43 (by decide)
  have h52 : Rv.ev a 52 = x52 := h.same 52 (by decide)
  have h53 : Rv.ev a 53 = x53 := h.same 53 (by decide)
  have h54 : Rv.ev a 54 = x54 := h.same 54 (by decide)
  have h55 : Rv.ev a 55 = x55 := h.same 55 (by decide)
  have h56 : Rv.ev a 56 = x56 := h.same 56 (by decide)
  have h57 : Rv.ev a 57 = x57 := h.same 57 (by decide)
  have h58 : Rv.ev a 58 = x58 := h.same 58 (by decide)
  have h59 : Rv.ev a 59 = x59 := h.same 59 (by decide)
  have h60 : Rv.ev a 60 = x60 := h.same 60 (by decide)
  have h61 : Rv.ev a 61 = x61 := h.same 61 (by decide)
  have h62 : Rv.ev a 62 = x62 := h.same 62 (by decide)
  have h63 : Rv.ev a 63 = x63 := h.same 63 (by decide)
  have h64 : Rv.ev a 64 = x64 := h.same 64 (by decide)
  have h65 : Rv.ev a 65 = x65 := h.same 65 (by decide)
  have h66 : Rv.ev a 66 = x66 := h.same 66 (by decide)
  have h67 : Rv.ev a 67 = x67 := h.same 67 (by decide)
  have h68 : Rv.ev a 68 = x68 := h.same 68 (by decide)
  have h69 : Rv.ev a 69 = x69 := h.same 69 (by decide)
  have h70 : Rv.ev a 70 = x70 := h.same 70 (by decide)
  have h71 : Rv.ev a 71 = x71 := h.same 71 (by decide)
  have h72 : Rv.ev a 72 = x72 := h.same 72 (by decide)
  have h73 : Rv.ev a 73 = x73 := h.same 73 (by decide)
  have h74 : Rv.ev a 74 = x74 := h.same 74 (by decide)
  have h75 : Rv.ev a 75 = x75 := h.same 75 (by decide)
  have h76 : Rv.ev a 76 = x76 := h.same 76 (by decide)
  have h77 : Rv.ev a 77 = x77 := h.same 77 (by decide)
  have h78 : Rv.ev a 78 = x78 := h.same 78 (by decide)
  have h79 : Rv.ev a 79 = x79 := h.same 79 (by decide)
  have h80 : Rv.ev a 80 = x80 := h.same 80 (by decide)
  have h81 : Rv.ev a 81 = x81 := h.same 81 (by decide)
  have h82 : Rv.ev a 82 = x82 := h.same 82 (by decide)
  have h83 : Rv.ev a 83 = x83 := h.same 83 (by decide)
  have h84 : Rv.ev a 84 = x84 := h.same 84 (by decide)
  have h85 : Rv.ev a 85 = x85 := h.same 85 (by decide)
  have h86 : Rv.ev a 86 = x86 := h.same 86 (by decide)
  have h87 : Rv.ev a 87 = x87 := h.same 87 (by decide)
  have h88 : Rv.ev a 88 = x88 := h.same 88 (by decide)
  have h89 : Rv.ev a 89 = x89 := h.same 89 (by decide)
  have h90 : Rv.ev a 90 = x90 := h.same 90 (by decide)
  have h91 : Rv.ev a 91 = x91 := h.same 91 (by decide)
  have h92 : Rv.ev a 92 = x92 := h.same 92 (by decide)
  have h93 : Rv.ev a 93 = x93 := h.same 93 (by decide)
  have h94 : Rv.ev a 94 = x94 := h.same 94 (by decide)
  rw [h0, h1, h2, h3, h4, h5, h6, h7, h8, h9, h10, h11, h12, h13, h14, h15, h16, h17, h18, h19, h20, h21, h22, h23, h24, h25, h26, h27, h28, h29, h30, h31, h32, h33, h34, h35, h36, h37, h38, h39, h40, h41, h42, h43, h52, h53, h54, h55, h56, h57, h58, h59, h60, h61, h62, h63, h64, h65, h66, h67, h68, h69, h70, h71, h72, h73, h74, h75, h76, h77, h78, h79, h80, h81, h82, h83, h84, h85, h86, h87, h88, h89, h90, h91, h92, h93, h94] at e
  have hd : a.defers = [] := h.def_
  cases a
  simp only at e hd
  rw [hd]
  exact congrArg (fun t => ({ tmps := t, defers := [] } : Act)) e
theorem offI {x0 x1 x2 x3 x4 x5 x6 x7 x8 x9 x10 x11 x12 x13 x14 x15 x16 x17 x18 x19 x20 x21 x22 x23 x24 x25 x26 x27 x28 x29 x30 x31 x32 x33 x34 x35 x36 x37 x38 x39 x40 x41 x42 x43 x44 x45 x46 x47 x48 x49 x50 x51 x52 x53 x54 x55 x56 x57 x58 x59 x60 x61 x62 x63 x64 x65 x66 x67 x68 x69 x70 x71 x72 x73 x74 x75 x76 x77 x78 x79 x80 x81 x82 x83 x84 x85 x86 x87 x88 x89 x90 x91 x92 x93 x94 : Value} {a : Act} (h : Rv.Off 9 eisl { tmps := #[x0, x1, x2, x3, x4, x5, x6, x7, x8, x9, x10, x11, x12, x13, x14, x15, x16, x17, x18, x19, x20, x21, x22, x23, x24, x25, x26, x27, x28, x29, x30, x31, x32, x33, x34, x35, x36, x37, x38, x39, x40, x41, x42, x43, x44, x45, x46, x47, x48, x49, x50, x51, x52, x53, x54, x55, x56, x57, x58, x59, x60, x61, x62, x63, x64, x65, x66, x67, x68, x69, x70, x71, x72, x73, x74, x75, x76, x77, x78, x79, x80, x81, x82, x83, x84, x85, x86, x87, x88, x89, x90, x91, x92, x93, x94], defers := [] } a) : ∃ y58 y59 y60 y61 y62 y63 y64 y65 y66, (Rv.ev a 58 = y58 ∧ Rv.ev a 59 = y59 ∧ Rv.ev a 60 = y60 ∧ Rv.ev a 61 = y61 ∧ Rv.ev a 62 = y62 ∧ Rv.ev a 63 = y63 ∧ Rv.ev a 64 = y64 ∧ Rv.ev a 65 = y65 ∧ Rv.ev a 66 = y66) ∧ a = { tmps := #[x0, x1, x2, x3, x4, x5, x6, x7, x8, x9, x10, x11, x12, x13, x14, x15, x16, x17, x18, x19, x20, x21, x22, x23, x24, x25, x26, x27, x28, x29, x30, x31, x32, x33, x34, x35, x36, x37, x38, x39, x40, x41, x42, x43, x44, x45, x46, x47, x48, x49, x50, x51, x52, x53, x54, x55, x56, x57, y58, y59, y60, y61, y62, y63, y64, y65, y66, x67, x68, x69, x70, x71, x72, x73, x74, x75, x76, x77, x78, x79, x80, x81, x82, x83, x84, x85, x86, x87, x88, x89, x90, x91, x92, x93, x94], defers := [] } := by
  refine ⟨Rv.ev a 58, Rv.ev a 59, Rv.ev a 60, Rv.ev a 61, Rv.ev a 62, Rv.ev a 63, Rv.ev a 64, Rv.ev a 65, Rv.ev a 66, ⟨rfl, rfl, rfl, rfl, rfl, rfl, rfl, rfl, rfl⟩, ?_⟩
  have e := tmps95 a h.size
  rw [lit95] at e
  have h0 : Rv.ev a 0 = x0 := h.same 0 (by decide)
  have h1 : Rv.ev a 1 = x1 := h.same 1 (by decide)
  have h2 : Rv.ev a 2 = x2 := h.same 2 (by decide)
  have h3 : Rv.ev a 3 = x3 := h.same 3 (by decide)
  have h4 : Rv.ev a 4 = x4 := h.same 4 (by decide)
  have h5 : Rv.ev a 5 = x5 := h.same 5 (by decide)
  have h6 : Rv.ev a 6 = x6 := h.same 6 (by decide)
  have h7 : Rv.ev a 7 = x7 := h.same 7 (by decide)
  have h8 : Rv.ev a 8 = x8 := h.same 8 (by decide)
  have h9 : Rv.ev a 9 = x9 := h.same 9 (by decide)
  have h10 : Rv.ev a 10 = x10 := h.same 10 (by decide)
  have h11 : Rv.ev a 11 = x11 := h.same 11 (by decide)
  have h12 : Rv.ev a 12 = x12 := h.same 12 (by decide)
  have h13 : Rv.ev a 13 = x13 := h.same 13 (by decide)
  have h14 : Rv.ev a 14 = x14 := h.same 14 (by decide)
  have h15 : Rv.ev a 15 = x15 := h.same 15 (by decide)
  have h16 : Rv.ev a 16 = x16 := h.same 16 (by decide)
  have h17 : Rv.ev a 17 = x17 := h.same 17 (by decide)
  have h18 : Rv.ev a 18 = x18 := h.same 18 (by decide)
  have h19 : Rv.ev a 19 = x19 := h.same 19 (by decide)
  have h20 : Rv.ev a 20 = x20 := h.same 20 (by decide)
  have h21 : Rv.ev a 21 = x21 := h.same 21 (by decide)
  have h22 : Rv.ev a 22 = x22 := h.same 22 (by decide)
  have h23 : Rv.ev a 23 = x23 := h.same 23 (by decide)
  have h24 : Rv.ev a 24 = x24 := h.same 24 (by decide)
  have h25 : Rv.ev a 25 = x25 := h.same 25 (by decide)
  have h26 : Rv.ev a 26 = x26 := h.same 26 (by decide)
  have h27 : Rv.ev a 27 = x27 := h.same 27 (by decide)
  have h28 : Rv.ev a 28 = x28 := h.same 28 (by decide)
  have h29 : Rv.ev a 29 = x29 := h.same 29 (by decide)
  have h30 : Rv.ev a 30 = x30 := h.same 30 (by decide)
  have h31 : Rv.ev a 31 = x31 := h.same 31 (by decide)
  have h32 : Rv.ev a 32 = x32 := h.same 32 (by decide)
  have h33 : Rv.ev a 33 = x33 := h.same 33 (by decide)
  have h34 : Rv.ev a 34 = x34 := h.same 34 (by decide)
  have h35 : Rv.ev a 35 = x35 := h.same 35 (by decide)
  have h36 : Rv.ev a 36 = x36 := h.same 36 (by decide)
  have h37 : Rv.ev a 37 = x37 := h.same 37 (by decide)
  have h38 : Rv.ev a 38 = x38 := h.same 38 (by decide)
  have h39 : Rv.ev a 39 = x39 := h.same 39 (by decide)
  have h40 : Rv.ev a 40 = x40 := h.same 40 (by decide)
  have h41 : Rv.ev a 41 = x41 := h.same 41 (by decide)
  have h42 : Rv.ev a 42 = x42 := h.same 42 (by decide)
  have h43 : Rv.ev a 43 = x43 := h.same 43 (by decide)
  have h44 : Rv.ev a 44 = x44 := h.same 44 (by decide)
  have h45 : Rv.ev a 45 = x45 := h.same 45 (by decide)
  have h46 : Rv.ev a 46 = x46 := h.same 46 (by decide)
  have h47 : Rv.ev a 47 = x47 := h.same 47 (by decide)
  have h48 : Rv.ev a 48 = x48 := h.same 48 (by decide)
  have h49 : Rv.ev a 49 = x49 := h.same 49 (by decide)
  have h50 : Rv.ev a 50 = x50 := h.same 50 (by decide)
  have h51 : Rv.ev a 51 = x51 := h.same 51 (by decide)
  have h52 : Rv.ev a 52 = x52 := h.same 52 (by decide)
  have h53 : Rv.ev a 53 = x53 := h.same 53 (by decide)
  have h54 : Rv.ev a 54 = x54 := h.same 54 (by decide)
  have h55 : Rv.ev a 55 = x55 := h.same 55 (by decide)
  have h56 : Rv.ev a 56 = x56 := h.same 56 (by decide)
  have h57 : Rv.ev a 57 = x57 := h.same 57 (by decide)
  have h67 : Rv.ev a 67 = x67 := h.same 67 (by decide)
  have h68 : Rv.ev a 68 = x68 := h.same 68 (by decide)
  have h69 : Rv.ev a 69 = x69 := h.same 69 (by decide)
  have h70 : Rv.ev a 70 = x70 := h.same 70 (by decide)
  have h71 : Rv.ev a 71 = x71 := h.same 71 (by decide)
  have h72 : Rv.ev a 72 = x72 := h.same 72 (by decide)
  have h73 : Rv.ev a 73 = x73 := h.same 73 (by decide)
  have h74 : Rv.ev a 74 = x74 := h.same 74 (by decide)
  have h75 : Rv.ev a 75 = x75 := h.same 75 (by decide)
  have h76 : Rv.ev a 76 = x76 := h.same 76 (by decide)
  have h77 : Rv.ev a 77 = x77 := h.same 77 (by decide)
  have h78 : Rv.ev a 78 = x78 := h.same 78 (by decide)
  have h79 : Rv.ev a 79 = x79 := h.same 79 (by decide)
  have h80 : Rv.ev a 80 = x80 := h.same 80 (by decide)
  have h81 : Rv.ev a 81 = x81 := h.same 81 (by decide)
  have h82 : Rv.ev a 82 = x82 := h.same 82 (by decide)
  have h83 : Rv.ev a 83 = x83 := h.same 83 (by decide)
  have h84 : Rv.ev a 84 = x84 := h.same 84 (by decide)
  have h85 : Rv.ev a 85 = x85 := h.same 85 (by decide)
  have h86 : Rv.ev a 86 = x86 := h.same 86 (by decide)
  have h87 : Rv.ev a 87 = x87 := h.same 87 (by decide)
  have h88 : Rv.ev a 88 = x88 := h.same 88 (by decide)
  have h89 : Rv.ev a 89 = x89 := h.same 89 (by decide)
  have h90 : Rv.ev a 90 = x90 := h.same 90 (by decide)
  have h91 : Rv.ev a 91 = x91 := h.same 91 (by decide)
  have h92 : Rv.ev a 92 = x92 := h.same 92 (by decide)
  have h93 : Rv.ev a 93 = x93 := h.same 93 (by decide)
  have h94 : Rv.ev a 94 = x94 := h.same 94 (by decide)
  rw [h0, h1, h2, h3, h4, h5, h6, h7, h8, h9, h10, h11, h12, h13, h14, h15, h16, h17, h18, h19, h20, h21, h22, h23, h24, h25, h26, h27, h28, h29, h30, h31, h32, h33, h34, h35, h36, h37, h38, h39, h40, h41, h42, h43, h44, h45, h46, h47, h48, h49, h50, h51, h52, h53, h54, h55, h56, h57, h67, h68, h69, h70, h71, h72, h73, h74, h75, h76, h77, h78, h79, h80, h81, h82, h83, h84, h85, h86, h87, h88, h89, h90, h91, h92, h93, h94] at e
  have hd : a.defers = [] := h.def_
  cases a
  simp only at e hd
  rw [hd]
  exact congrArg (fun t => ({ tmps := t, defers := [] } : Act)) e
end Go.Proofs.Ytnpigleolifcaaa
