/-
  2 texts in one: what each proves stands at its head.
-/
import Derived.Test.YtndgglhppoijnaaDoorUY
import Derived.Test.YtndgglhppoijnaaDoorHt
import Derived.Test.YtndgglhppoijnaaDoorUf
import Derived.Test.YtndgglhppoijnaaDoorUe
import Derived.Lib.AppendStr
/-
  The regions of ShowOne that draw their order.
-/
namespace Go.Proofs.YtndgglhppoijnaaDoor
open Go.RowKit
set_option maxRecDepth 100000

/-! ## An activation spelt out again -/
theorem lit55 (f : Nat → Value) : ((List.range 55).map f).toArray = #[f 0, f 1, f 2, f 3, f 4, f 5, f 6, f 7, f 8, f 9, f 10, f 11, f 12, f 13, f 14, f 15, f 16, f 17, f 18, f 19, f 20, f 21, f 22, f 23, f 24, f 25, f 26, f 27, f 28, f 29, f 30, f 31, f 32, f 33, f 34, f 35, f 36, f 37, f 38, f 39, f 40, f 41, f 42, f 43, f 44, f 45, f 46, f 47, f 48, f 49, f 50, f 51, f 52, f 53, f 54] := rfl
theorem tmps55 (a : Act) (h : a.tmps.size = 55) : a.tmps = ((List.range 55).map (Rv.ev a)).toArray := by
  apply Array.ext
  · simp [h]
  · intro i h1 h2
    simp [Rv.ev, Act.eval, h1]
theorem off55 {x0 x1 x2 x3 x4 x5 x6 x7 x8 x9 x10 x11 x12 x13 x14 x15 x16 x17 x18 x19 x20 x21 x22 x23 x24 x25 x26 x27 x28 x29 x30 x31 x32 x33 x34 x35 x36 x37 x38 x39 x40 x41 x42 x43 x44 x45 x46 x47 x48 x49 x50 x51 x52 x53 x54 : Value} {a : Act} (h : Rv.Off 8 (fun k => 38 + k) { tmps := #[x0, x1, x2, x3, x4, x5, x6, x7, x8, x9, x10, x11, x12, x13, x14, x15, x16, x17, x18, x19, x20, x21, x22, x23, x24, x25, x26, x27, x28, x29, x30, x31, x32, x33, x34, x35, x36, x37, x38, x39, x40, x41, x42, x43, x44, x45, x46, x47, x48, x49, x50, x51, x52, x53, x54], defers := [] } a) : ∃ y38 y39 y40 y41 y42 y43 y44 y45, Rv.ev a 45 = y45 ∧ a = { tmps := #[x0, x1, x2, x3, x4, x5, x6, x7, x8, x9, x10, x11, x12, x13, x14, x15, x16, x17, x18, x19, x20, x21, x22, x23, x24, x25, x26, x27, x28, x29, x30, x31, x32, x33, x34, x35, x36, x37, y38, y39, y40, y41, y42, y43, y44, y45, x46, x47, x48, x49, x50, x51, x52, x53, x54], defers := [] } := by
  refine ⟨Rv.ev a 38, Rv.ev a 39, Rv.ev a 40, Rv.ev a 41, Rv.ev a 42, Rv.ev a 43, Rv.ev a 44, Rv.ev a 45, rfl, ?_⟩
  have e := tmps55 a h.size
  rw [lit55] at e
  have h0 : Rv.ev a 0 = x0 := h.same 0 (by intro j hj; omega)
  have h1 : Rv.ev a 1 = x1 := h.same 1 (by intro j hj; omega)
  have h2 : Rv.ev a 2 = x2 := h.same 2 (by intro j hj; omega)
  have h3 : Rv.ev a 3 = x3 := h.same 3 (by intro j hj; omega)
  have h4 : Rv.ev a 4 = x4 := h.same 4 (by intro j hj; omega)
  have h5 : Rv.ev a 5 = x5 := h.same 5 (by intro j hj; omega)
  have h6 : Rv.ev a 6 = x6 := h.same 6 (by intro j hj; omega)
  have h7 : Rv.ev a 7 = x7 := h.same 7 (by intro j hj; omega)
  have h8 : Rv.ev a 8 = x8 := h.same 8 (by intro j hj; omega)
  have h9 : Rv.ev a 9 = x9 := h.same 9 (by intro j hj; omega)
  have h10 : Rv.ev a 10 = x10 := h.same 10 (by intro j hj; omega)
  have h11 : Rv.ev a 11 = x11 := h.same 11 (by intro j hj; omega)
  have h12 : Rv.ev a 12 = x12 := h.same 12 (by intro j hj; omega)
  have h13 : Rv.ev a 13 = x13 := h.same 13 (by intro j hj; omega)
  have h14 : Rv.ev a 14 = x14 := h.same 14 (by intro j hj; omega)
  have h15 : Rv.ev a 15 = x15 := h.same 15 (by intro j hj; omega)
  have h16 : Rv.ev a 16 = x16 := h.same 16 (by intro j hj; omega)
  have h17 : Rv.ev a 17 = x17 := h.same 17 (by intro j hj; omega)
  have h18 : Rv.ev a 18 = x18 := h.same 18 (by intro j hj; omega)
  have h19 : Rv.ev a 19 = x19 := h.same 19 (by intro j hj; omega)
  have h20 : Rv.ev a 20 = x20 := h.same 20 (by intro j hj; omega)
  have h21 : Rv.ev a 21 = x21 := h.same 21 (by intro j hj; omega)
  have h22 : Rv.ev a 22 = x22 := h.same 22 (by intro j hj; omega)
  have h23 : Rv.ev a 23 = x23 := h.same 23 (by intro j hj; omega)
  have h24 : Rv.ev a 24 = x24 := h.same 24 (by intro j hj; omega)
  have h25 : Rv.ev a 25 = x25 := h.same 25 (by intro j hj; omega)
  have h26 : Rv.ev a 26 = x26 := h.same 26 (by intro j hj; omega)
  have h27 : Rv.ev a 27 = x27 := h.same 27 (by intro j hj; omega)
  have h28 : Rv.ev a 28 = x28 := h.same 28 (by intro j hj; omega)
  have h29 : Rv.ev a 29 = x29 := h.same 29 (by intro j hj; omega)
  have h30 : Rv.ev a 30 = x30 := h.same 30 (by intro j hj; omega)
  have h31 : Rv.ev a 31 = x31 := h.same 31 (by intro j hj; omega)
  have h32 : Rv.ev a 32 = x32 := h.same 32 (by intro j hj; omega)
  have h33 : Rv.ev a 33 = x33 := h.same 33 (by intro j hj; omega)
  have h34 : Rv.ev a 34 = x34 := h.same 34 (by intro j hj; omega)
  have h35 : Rv.ev a 35 = x35 := h.same 35 (by intro j hj; omega)
  have h36 : Rv.ev a 36 = x36 := h.same 36 (by intro j hj; omega)
  have h37 : Rv.ev a 37 = x37 := h.same 37 (by intro j hj; omega)
  have h46 : Rv.ev a 46 = x46 := h.same 46 (by intro j hj; omega)
  have h47 : Rv.ev a 47 = x47 := h.same 47 (by intro j hj; omega)
  have h48 : Rv.ev a 48 = x48 := h.same 48 (by intro j hj; omega)
  have h49 : Rv.ev a 49 = x49 := h.same 49 (by intro j hj; omega)
  have h50 : Rv.ev a 50 = x50 := h.same 50 (by intro j hj; omega)
  have h51 : Rv.ev a 51 = x51 := h.same 51 (by intro j hj; omega)
  have h52 : Rv.ev a 52 = x52 := h.same 52 (by intro j hj; omega)
  have h53 : Rv.ev a 53 = x53 := h.same 53 (by intro j hj; omega)
  have h54 : Rv.ev a 54 = x54 := h.same 54 (by intro j hj; omega)
  rw [h0, h1, h2, h3, h4, h5, h6, h7, h8, h9, h10, h11, h12, h13, h14, h15, h16, h17, h18, h19, h20, h21, h22, h23, h24, h25, h26, h27, h28, h29, h30, h31, h32, h33, h34, h35, h36, h37, h46, h47, h48, h49, h50, h51, h52, h53, h54] at e
  have hd : a.defers = [] := h.def_
  cases a
  simp only at e hd
  rw [hd]
  exact congrArg (fun t => ({ tmps := t, defers := [] } : Act)) e

/-- An append of a string whose run is known. -/
theorem wpList_append_runS {P : Program} {w : World} {ops : Array Oper} {rest : List Oper} {o : Oper} {a : Act} {Q : Exit → Act → World → Prop} (hgd : o.guard = none) (s x : Operand) (t u : TypeId)
    (ho : o.op = .call { callee := .builtin .append, args := #[s, x], argTypes := #[t, u] }) (hty : o.type = t) (v y : Value) (hs : a.eval s = v) (hx : a.eval x = y)
    (v' : Value) (w' : World) (hrun : (Builtin.append_ #[t, u] t #[v, y]).run P w = .ok v' w') (h : wpList P ops Q rest (a.put o.dst v') w') : wpList P ops Q (o :: rest) a w := by
  refine wpList_plain hgd fun K hK => ?_
  rw [← hty] at hrun
  unfold Oper.wp
  rw [hty] at hrun
  simp only [execOp, ho, resolve, invoke, builtin, Sem.run_bind, Sem.run_pure, Result.andThen_ok, List.map_toArray, List.map_cons, List.map_nil, hs, hx, hty, hrun]
  exact hK _ _ h

/-! ## Same, by texts -/
mutual
theorem ExR.pqf : ∀ {x y : Ex}, ExR tt x y → ExR (pq false) x y
  | .mk _ _ _ _ _ _ _ _, _, k => by cases k with | mk _ b => exact .mk (fun e => by cases e) b.pqf
theorem ExsR.pqf : ∀ {xs ys : List Ex}, ExsR tt xs ys → ExsR (pq false) xs ys
  | [], _, k => by cases k; exact .nil
  | _ :: _, _, k => by cases k with | cons a b => exact .cons a.pqf b.pqf
end
theorem lir_imp {α β : Type} {A B : α → β → Prop} (h : ∀ a b, A a b → B a b) : ∀ {xs : List α} {ys : List β}, LiR A xs ys → LiR B xs ys
  | [], _, k => by cases k; exact .nil
  | _ :: _, _, k => by cases k with | cons a b => exact .cons (h _ _ a) (lir_imp h b)
theorem FnR.pqf {f g : Fn1} (k : FnR tt f g) : FnR (pq false) f g :=
  ⟨k.name, lir_imp (fun _ _ e => ⟨e.name, e.ty, fun x => by cases x⟩) k.pms, k.ty, k.body.pqf, fun x => by cases x⟩

/-- What Same answers of two programs that were read: whether they have one text. -/
theorem same4_txt {gs gs' : List Fn1} (ho : PrgOk gs) (ho' : PrgOk gs') (h1 : prT gs = prT gs' → LiR (FnR tt) gs gs') {w : World} {A A' : Nat → Prop} {ao ao' : Option Addr} {c c' : Nat} (hx : FlW w A ao gs) (hy : FlW w A' ao' gs') :
    Calls Tryd.prog 7 #[.agg #[.slice ao gs.length c], .agg #[.slice ao' gs'.length c'], .bool false] w fun e w' => e = .returned (.bool (decide (prT gs = prT gs'))) ∧ Below w.heap.size w w' := by
  have k1 : ∀ g ∈ gs, szE g.body ≤ 1073741824 := fun g hg => by have := ho.sz g hg; omega
  have k2 : ∀ g ∈ gs, g.pms.length ≤ 9223372036854775807 := fun g hg => by have := ho.pms g hg; omega
  have k3 : gs.length ≤ 9223372036854775807 := by have := ho.num; omega
  by_cases h : prT gs = prT gs'
  · refine (same4_any false gs gs' k1 k2 k3 (lir_imp (fun _ _ k => k.pqf) (h1 h)) w A A' ao ao' c c' hx hy).mono ?_
    rintro e w' ⟨rfl, hb⟩
    rw [decide_eq_true h]
    exact ⟨rfl, hb⟩
  · refine (same4_tot rd_small gs gs' k1 k2 k3 (fun g hg => (ho.wf g hg).body) (fun g hg => (ho'.wf g hg).body) w A A' ao ao' c c' hx hy).mono ?_
    rintro e w' ⟨⟨b, rfl, hb⟩, hB⟩
    cases b with
    | true => exact absurd (prT_R (hb rfl)) h
    | false =>
      rw [decide_eq_false h]
      exact ⟨rfl, hB⟩

/-! ## The regions that draw their order -/
section
variable (p r : Value) (T : List UInt8)
def V8t : Nat → Value
  | 0 => .bool true
  | 1 => .bool true
  | 2 => p
  | 3 => .string (bs T)
  | 4 => r
  | 5 => .string (bs T)
  | _ => .bool false
def V8f : Nat → Value
  | 0 => .bool false
  | 1 => .bool false
  | 7 => .bool false
  | _ => undef
variable (q : Value) (T' : List UInt8)
def V10 : Nat → Value
  | 0 => p
  | 1 => .string (bs T)
  | 2 => q
  | 3 => .string (bs T')
  | 4 => .bool (decide (T = T'))
  | 5 => p
  | 6 => q
  | 7 => .bool (decide (T = T'))
  | _ => .bool true
end

def ea0 : Oper := { dst := some 38, op := Op.move (Operand.tmp 10), type := 4, pos := "law.go:71", after := #[], guard := none }
def ea1 : Oper := { dst := some 39, op := Op.move (Operand.tmp 38), type := 4, pos := "law.go:71", after := #[{ on := 0, ground := Ground.data }], guard := none }
def ea2 : Oper := { dst := some 40, op := Op.load 26 (Operand.tmp 5), type := 26, pos := "law.go:71", after := #[{ on := 1, ground := Ground.guard }], guard := some (1, true) }
def ea3 : Oper := { dst := some 41, op := Op.call { callee := Callee.value (Operand.func 6), args := #[Operand.tmp 40], argTypes := #[26] }, type := 9, pos := "law.go:71", after := #[{ on := 2, ground := Ground.data }, { on := 1, ground := Ground.chain }, { on := 1, ground := Ground.guard }], guard := some (1, true) }
def ea4 : Oper := { dst := some 42, op := Op.load 26 (Operand.tmp 9), type := 26, pos := "law.go:71", after := #[{ on := 1, ground := Ground.guard }], guard := some (1, true) }
def ea5 : Oper := { dst := some 43, op := Op.call { callee := Callee.value (Operand.func 6), args := #[Operand.tmp 42], argTypes := #[26] }, type := 9, pos := "law.go:71", after := #[{ on := 4, ground := Ground.data }, { on := 3, ground := Ground.chain }, { on := 1, ground := Ground.guard }], guard := some (1, true) }
def ea6 : Oper := { dst := some 44, op := Op.binOp BinOp.neq 9 (Operand.tmp 41) (Operand.tmp 43) 9, type := 4, pos := "law.go:71", after := #[{ on := 3, ground := Ground.data }, { on := 5, ground := Ground.data }, { on := 1, ground := Ground.guard }], guard := some (1, true) }
def ea7 : Oper := { dst := some 45, op := Op.pick (Operand.tmp 39) (Operand.tmp 44) (Operand.const (Value.bool false)), type := 4, pos := "law.go:71", after := #[{ on := 1, ground := Ground.data }, { on := 6, ground := Ground.data }], guard := none }
def ops8 : Array Oper := #[ea0, ea1, ea2, ea3, ea4, ea5, ea6, ea7]
def eb0 : Oper := { dst := some 46, op := Op.load 26 (Operand.tmp 5), type := 26, pos := "law.go:74", after := #[], guard := none }
def eb1 : Oper := { dst := some 47, op := Op.call { callee := Callee.value (Operand.func 6), args := #[Operand.tmp 46], argTypes := #[26] }, type := 9, pos := "law.go:74", after := #[{ on := 0, ground := Ground.data }], guard := none }
def eb2 : Oper := { dst := some 48, op := Op.load 26 (Operand.tmp 7), type := 26, pos := "law.go:74", after := #[], guard := none }
def eb3 : Oper := { dst := some 49, op := Op.call { callee := Callee.value (Operand.func 6), args := #[Operand.tmp 48], argTypes := #[26] }, type := 9, pos := "law.go:74", after := #[{ on := 2, ground := Ground.data }, { on := 1, ground := Ground.chain }], guard := none }
def eb4 : Oper := { dst := some 50, op := Op.binOp BinOp.eql 9 (Operand.tmp 47) (Operand.tmp 49) 9, type := 4, pos := "law.go:74", after := #[{ on := 1, ground := Ground.data }, { on := 3, ground := Ground.data }], guard := none }
def eb5 : Oper := { dst := some 51, op := Op.load 26 (Operand.tmp 5), type := 26, pos := "law.go:74", after := #[], guard := none }
def eb6 : Oper := { dst := some 52, op := Op.load 26 (Operand.tmp 7), type := 26, pos := "law.go:74", after := #[], guard := none }
def eb7 : Oper := { dst := some 53, op := Op.call { callee := Callee.value (Operand.func 7), args := #[Operand.tmp 51, Operand.tmp 52, Operand.const (Value.bool false)], argTypes := #[26, 26, 4] }, type := 4, pos := "law.go:74", after := #[{ on := 5, ground := Ground.data }, { on := 6, ground := Ground.data }, { on := 3, ground := Ground.chain }], guard := none }
def eb8 : Oper := { dst := some 54, op := Op.binOp BinOp.eql 4 (Operand.tmp 50) (Operand.tmp 53) 4, type := 4, pos := "law.go:74", after := #[{ on := 4, ground := Ground.data }, { on := 7, ground := Ground.data }], guard := none }
def eb9 : Oper := { dst := some 4, op := Op.assign (Operand.tmp 54), type := 4, pos := "law.go:74", after := #[{ on := 8, ground := Ground.data }, { on := 7, ground := Ground.chain }, { on := 0, ground := Ground.phase }, { on := 1, ground := Ground.phase }, { on := 2, ground := Ground.phase }, { on := 3, ground := Ground.phase }, { on := 4, ground := Ground.phase }, { on := 5, ground := Ground.phase }, { on := 6, ground := Ground.phase }, { on := 7, ground := Ground.phase }, { on := 8, ground := Ground.phase }], guard := none }
def ops10 : Array Oper := #[eb0, eb1, eb2, eb3, eb4, eb5, eb6, eb7, eb8, eb9]
def sl10 (k : Nat) : Nat := if k = 9 then 4 else 46 + k

section
variable {Q : Exit → Act → World → Prop} {X0 w0 : World} {a0 : Act}
/-- The text in blanks was read: one text. -/
theorem one8t {b5 b9 : Nat} {a1 a3 : Option Addr} {c1 c3 : Nat} {gs1 gs3 : List Fn1} {A A' : Nat → Prop} (hT : Tab X0) (ho1 : PrgOk gs1) (ho3 : PrgOk gs3) (he : prT gs3 = prT gs1) (hs : 55 ≤ a0.tmps.size)
    (e5 : Rv.ev a0 5 = .pointer (some ⟨b5, 0, none⟩)) (e9 : Rv.ev a0 9 = .pointer (some ⟨b9, 0, none⟩)) (e10 : Rv.ev a0 10 = .bool true)
    (h5 : ∀ w, Below X0.heap.size X0 w → w.cell? ⟨b5, 0, none⟩ = some (.slice a1 gs1.length c1)) (h9 : ∀ w, Below X0.heap.size X0 w → w.cell? ⟨b9, 0, none⟩ = some (.slice a3 gs3.length c3))
    (f1 : FlW X0 A a1 gs1) (f3 : FlW X0 A' a3 gs3) (hw : Below X0.heap.size X0 w0)
    (hQ : ∀ a w, Rv.Off 8 (fun k => 38 + k) a0 a → Below X0.heap.size X0 w → Rv.ev a 45 = .bool false → Q .normal a w) :
    wpAny Tryd.prog .any ops8 Q 8 (Array.replicate 8 false) a0 w0 := by
  refine Rv.region (X0 := X0) 8 (fun k => 38 + k) (V8t (.agg #[.slice a1 gs1.length c1]) (.agg #[.slice a3 gs3.length c3]) (prT gs1)) rfl (by decide) (by intros; omega) (by intro j hj; show 38 + j < _; omega) hw ?_ (fun a w hO hB hv => hQ a w hO hB (hv 7 (by decide)))
  intro i a W hi hO hW hd
  have hev : ∀ j, a.eval (.tmp j) = Rv.ev a j := fun _ => rfl
  have hcn : ∀ v, a.eval (.const v) = v := fun _ => rfl
  have hfn : ∀ v, a.eval (.func v) = .func (.func v) #[] #[] := fun _ => rfl
  have g5 : Rv.ev a 5 = .pointer (some ⟨b5, 0, none⟩) := (hO.same 5 (by intro j hj; omega)).trans e5
  have g9 : Rv.ev a 9 = .pointer (some ⟨b9, 0, none⟩) := (hO.same 9 (by intro j hj; omega)).trans e9
  have g10 : Rv.ev a 10 = .bool true := (hO.same 10 (by intro j hj; omega)).trans e10
  have k5 := h5 W hW
  have k9 := h9 W hW
  have hsz : 55 ≤ a.tmps.size := by rw [hO.size]; exact hs
  have hq : ((bs (prT gs1)).toList == (bs (prT gs1)).toList) = true := by simp
  have h8 : i = 0 ∨ i = 1 ∨ i = 2 ∨ i = 3 ∨ i = 4 ∨ i = 5 ∨ i = 6 ∨ i = 7 := by omega
  rcases h8 with rfl | rfl | rfl | rfl | rfl | rfl | rfl | rfl
  · exact Rv.run (o := ea0) rfl rfl (Rv.want_free rfl) (by unfold ea0; simp only [execOp, hev, g10]; rfl) hW
  · have d0 : Rv.ev a 38 = .bool true := hd 0 (by decide)
    exact Rv.run (o := ea1) rfl rfl (Rv.want_free rfl) (by unfold ea1; simp only [execOp, hev, d0]; rfl) hW
  · have d1 : Rv.ev a 39 = .bool true := hd 1 (by decide)
    exact Rv.run (o := ea2) rfl rfl (Rv.want_if (b' := true) (j := 1) rfl rfl rfl (by omega) d1) (by unfold ea2; simp only [execOp, hev, g5]; go_simp; rfl) hW
  · have d1 : Rv.ev a 39 = .bool true := hd 1 (by decide)
    have d2 : Rv.ev a 40 = .agg #[.slice a1 gs1.length c1] := hd 2 (by decide)
    refine Rv.call (o := ea3) (f := 6) (vs := #[.agg #[.slice a1 gs1.length c1]]) rfl rfl (Rv.want_if (b' := true) (j := 1) rfl rfl rfl (by omega) d1) ?_ hW (showProgram_ok (tab_keep hT hW) ho1 (c := c1) (f1.up hW))
    unfold ea3
    simp only [execOp, resolve, invoke, Sem.run_bind, List.map_toArray, List.map_cons, List.map_nil, hev, hfn, d2]
    go_simp
  · have d1 : Rv.ev a 39 = .bool true := hd 1 (by decide)
    exact Rv.run (o := ea4) rfl rfl (Rv.want_if (b' := true) (j := 1) rfl rfl rfl (by omega) d1) (by unfold ea4; simp only [execOp, hev, g9]; go_simp; rfl) hW
  · have d1 : Rv.ev a 39 = .bool true := hd 1 (by decide)
    have d4 : Rv.ev a 42 = .agg #[.slice a3 gs3.length c3] := hd 4 (by decide)
    have m := showProgram_ok (tab_keep hT hW) ho3 (c := c3) (f3.up hW)
    rw [he] at m
    refine Rv.call (o := ea5) (f := 6) (vs := #[.agg #[.slice a3 gs3.length c3]]) rfl rfl (Rv.want_if (b' := true) (j := 1) rfl rfl rfl (by omega) d1) ?_ hW m
    unfold ea5
    simp only [execOp, resolve, invoke, Sem.run_bind, List.map_toArray, List.map_cons, List.map_nil, hev, hfn, d4]
    go_simp
  · have d1 : Rv.ev a 39 = .bool true := hd 1 (by decide)
    have d3 : Rv.ev a 41 = .string (bs (prT gs1)) := hd 3 (by decide)
    have d5 : Rv.ev a 43 = .string (bs (prT gs1)) := hd 5 (by decide)
    exact Rv.run (o := ea6) rfl rfl (Rv.want_if (b' := true) (j := 1) rfl rfl rfl (by omega) d1) (by unfold ea6; simp only [execOp, hev, d3, d5]; go_simp; rfl) hW
  · have d1 : Rv.ev a 39 = .bool true := hd 1 (by decide)
    have d6 : Rv.ev a 44 = .bool false := hd 6 (by decide)
    exact Rv.run (o := ea7) rfl rfl (Rv.want_free rfl) (by unfold ea7; simp only [execOp, hev, hcn, d1, d6]; go_simp; rfl) hW
/-- It was not. -/
theorem one8f (hs : 55 ≤ a0.tmps.size) (e10 : Rv.ev a0 10 = .bool false) (hw : Below X0.heap.size X0 w0)
    (hQ : ∀ a w, Rv.Off 8 (fun k => 38 + k) a0 a → Below X0.heap.size X0 w → Rv.ev a 45 = .bool false → Q .normal a w) :
    wpAny Tryd.prog .any ops8 Q 8 (Array.replicate 8 false) a0 w0 := by
  refine Rv.region (X0 := X0) 8 (fun k => 38 + k) V8f rfl (by decide) (by intros; omega) (by intro j hj; show 38 + j < _; omega) hw ?_ (fun a w hO hB hv => hQ a w hO hB (hv 7 (by decide)))
  intro i a W hi hO hW hd
  have hev : ∀ j, a.eval (.tmp j) = Rv.ev a j := fun _ => rfl
  have hcn : ∀ v, a.eval (.const v) = v := fun _ => rfl
  have g10 : Rv.ev a 10 = .bool false := (hO.same 10 (by intro j hj; omega)).trans e10
  have hsz : 55 ≤ a.tmps.size := by rw [hO.size]; exact hs
  have h8 : i = 0 ∨ i = 1 ∨ i = 2 ∨ i = 3 ∨ i = 4 ∨ i = 5 ∨ i = 6 ∨ i = 7 := by omega
  rcases h8 with rfl | rfl | rfl | rfl | rfl | rfl | rfl | rfl
  · exact Rv.run (o := ea0) rfl rfl (Rv.want_free rfl) (by unfold ea0; simp only [execOp, hev, g10]; rfl) hW
  · have d0 : Rv.ev a 38 = .bool false := hd 0 (by decide)
    exact Rv.run (o := ea1) rfl rfl (Rv.want_free rfl) (by unfold ea1; simp only [execOp, hev, d0]; rfl) hW
  · have d1 : Rv.ev a 39 = .bool false := hd 1 (by decide)
    exact Rv.skip (o := ea2) rfl rfl (Rv.want_if (b' := true) (j := 1) rfl rfl rfl (by omega) d1) hW
  · have d1 : Rv.ev a 39 = .bool false := hd 1 (by decide)
    exact Rv.skip (o := ea3) rfl rfl (Rv.want_if (b' := true) (j := 1) rfl rfl rfl (by omega) d1) hW
  · have d1 : Rv.ev a 39 = .bool false := hd 1 (by decide)
    exact Rv.skip (o := ea4) rfl rfl (Rv.want_if (b' := true) (j := 1) rfl rfl rfl (by omega) d1) hW
  · have d1 : Rv.ev a 39 = .bool false := hd 1 (by decide)
    exact Rv.skip (o := ea5) rfl rfl (Rv.want_if (b' := true) (j := 1) rfl rfl rfl (by omega) d1) hW
  · have d1 : Rv.ev a 39 = .bool false := hd 1 (by decide)
    exact Rv.skip (o := ea6) rfl rfl (Rv.want_if (b' := true) (j := 1) rfl rfl rfl (by omega) d1) hW
  · have d1 : Rv.ev a 39 = .bool false := hd 1 (by decide)
    exact Rv.run (o := ea7) rfl rfl (Rv.want_free rfl) (by unfold ea7; simp only [execOp, hev, hcn, d1]; go_simp; rfl) hW
/-- Two texts are one just if the programs are. -/
theorem one10 {b5 b7 : Nat} {a1 a2 : Option Addr} {c1 c2 : Nat} {gs1 gs2 : List Fn1} {A A' : Nat → Prop} (hT : Tab X0) (ho1 : PrgOk gs1) (ho2 : PrgOk gs2) (he : prT gs1 = prT gs2 → LiR (FnR tt) gs1 gs2) (hs : 55 ≤ a0.tmps.size)
    (e5 : Rv.ev a0 5 = .pointer (some ⟨b5, 0, none⟩)) (e7 : Rv.ev a0 7 = .pointer (some ⟨b7, 0, none⟩))
    (h5 : ∀ w, Below X0.heap.size X0 w → w.cell? ⟨b5, 0, none⟩ = some (.slice a1 gs1.length c1)) (h7 : ∀ w, Below X0.heap.size X0 w → w.cell? ⟨b7, 0, none⟩ = some (.slice a2 gs2.length c2))
    (f1 : FlW X0 A a1 gs1) (f2 : FlW X0 A' a2 gs2) (hw : Below X0.heap.size X0 w0)
    (hQ : ∀ a w, a.defers = a0.defers → Below X0.heap.size X0 w → Rv.ev a 4 = .bool true → Q .normal a w) :
    wpAny Tryd.prog .any ops10 Q 10 (Array.replicate 10 false) a0 w0 := by
  refine Rv.region (X0 := X0) 10 sl10 (V10 (.agg #[.slice a1 gs1.length c1]) (prT gs1) (.agg #[.slice a2 gs2.length c2]) (prT gs2)) rfl (by decide) (by unfold sl10; intro i hi j hj h; split <;> split <;> omega) (by intro j hj; unfold sl10; split <;> omega) hw ?_ (fun a w hO hB hv => hQ a w hO.def_ hB (hv 9 (by decide)))
  intro i a W hi hO hW hd
  have hev : ∀ j, a.eval (.tmp j) = Rv.ev a j := fun _ => rfl
  have hcn : ∀ v, a.eval (.const v) = v := fun _ => rfl
  have hfn : ∀ v, a.eval (.func v) = .func (.func v) #[] #[] := fun _ => rfl
  have g5 : Rv.ev a 5 = .pointer (some ⟨b5, 0, none⟩) := (hO.same 5 (by intro j hj; unfold sl10; split <;> omega)).trans e5
  have g7 : Rv.ev a 7 = .pointer (some ⟨b7, 0, none⟩) := (hO.same 7 (by intro j hj; unfold sl10; split <;> omega)).trans e7
  have k5 := h5 W hW
  have k7 := h7 W hW
  have hq : ((bs (prT gs1)).toList == (bs (prT gs2)).toList) = decide (prT gs1 = prT gs2) := by
    rw [bs_toList, bs_toList]
    by_cases h : prT gs1 = prT gs2
    · rw [h]; simp
    · rw [decide_eq_false h]; simpa using h
  have h8 : i = 0 ∨ i = 1 ∨ i = 2 ∨ i = 3 ∨ i = 4 ∨ i = 5 ∨ i = 6 ∨ i = 7 ∨ i = 8 ∨ i = 9 := by omega
  rcases h8 with rfl | rfl | rfl | rfl | rfl | rfl | rfl | rfl | rfl | rfl
  · exact Rv.run (o := eb0) rfl rfl (Rv.want_free rfl) (by unfold eb0; simp only [execOp, hev, g5]; go_simp; rfl) hW
  · have d0 : Rv.ev a 46 = .agg #[.slice a1 gs1.length c1] := hd 0 (by decide)
    refine Rv.call (o := eb1) (f := 6) (vs := #[.agg #[.slice a1 gs1.length c1]]) rfl rfl (Rv.want_free rfl) ?_ hW (showProgram_ok (tab_keep hT hW) ho1 (c := c1) (f1.up hW))
    unfold eb1
    simp only [execOp, resolve, invoke, Sem.run_bind, List.map_toArray, List.map_cons, List.map_nil, hev, hfn, d0]
    go_simp
  · exact Rv.run (o := eb2) rfl rfl (Rv.want_free rfl) (by unfold eb2; simp only [execOp, hev, g7]; go_simp; rfl) hW
  · have d2 : Rv.ev a 48 = .agg #[.slice a2 gs2.length c2] := hd 2 (by decide)
    refine Rv.call (o := eb3) (f := 6) (vs := #[.agg #[.slice a2 gs2.length c2]]) rfl rfl (Rv.want_free rfl) ?_ hW (showProgram_ok (tab_keep hT hW) ho2 (c := c2) (f2.up hW))
    unfold eb3
    simp only [execOp, resolve, invoke, Sem.run_bind, List.map_toArray, List.map_cons, List.map_nil, hev, hfn, d2]
    go_simp
  · have d1 : Rv.ev a 47 = .string (bs (prT gs1)) := hd 1 (by decide)
    have d3 : Rv.ev a 49 = .string (bs (prT gs2)) := hd 3 (by decide)
    exact Rv.run (o := eb4) rfl rfl (Rv.want_free rfl) (by unfold eb4; simp only [execOp, hev, d1, d3]; go_simp; rfl) hW
  · exact Rv.run (o := eb5) rfl rfl (Rv.want_free rfl) (by unfold eb5; simp only [execOp, hev, g5]; go_simp; rfl) hW
  · exact Rv.run (o := eb6) rfl rfl (Rv.want_free rfl) (by unfold eb6; simp only [execOp, hev, g7]; go_simp; rfl) hW
  · have d5 : Rv.ev a 51 = .agg #[.slice a1 gs1.length c1] := hd 5 (by decide)
    have d6 : Rv.ev a 52 = .agg #[.slice a2 gs2.length c2] := hd 6 (by decide)
    refine Rv.call (o := eb7) (f := 7) (vs := #[.agg #[.slice a1 gs1.length c1], .agg #[.slice a2 gs2.length c2], .bool false]) rfl rfl (Rv.want_free rfl) ?_ hW (same4_txt ho1 ho2 he (f1.up hW) (f2.up hW))
    unfold eb7
    simp only [execOp, resolve, invoke, Sem.run_bind, List.map_toArray, List.map_cons, List.map_nil, hev, hcn, hfn, d5, d6]
    go_simp
  · have d4 : Rv.ev a 50 = .bool (decide (prT gs1 = prT gs2)) := hd 4 (by decide)
    have d7 : Rv.ev a 53 = .bool (decide (prT gs1 = prT gs2)) := hd 7 (by decide)
    exact Rv.run (o := eb8) rfl rfl (Rv.want_free rfl) (by unfold eb8; simp only [execOp, hev, d4, d7]; go_simp; rfl) hW
  · have d8 : Rv.ev a 54 = .bool true := hd 8 (by decide)
    exact Rv.run (o := eb9) rfl rfl (Rv.want_free rfl) (by unfold eb9; simp only [execOp, hev, d8]; rfl) hW
end
end Go.Proofs.YtndgglhppoijnaaDoor
/-
  The walk of ShowOne.
-/
namespace Go.Proofs.YtndgglhppoijnaaDoor
open Go.RowKit
set_option maxRecDepth 100000

set_option maxHeartbeats 8000000 in
theorem showOne_any (ao1 : Option Addr) (cap1 : Nat) (l1 : List UInt8) (hc1 : l1.length ≤ cap1) (hn1 : ao1 = none → cap1 = 0) (hz1 : l1.length ≤ 140737488351232) (ao2 : Option Addr) (cap2 : Nat) (l2 : List UInt8) (hc2 : l2.length ≤ cap2) (w : World) (hT : Tab w) (h1 : Bd w ao1 l1) (h2 : Bd w ao2 l2) :
    Calls Tryd.prog 3 #[.slice ao1 l1.length cap1, .slice ao2 l2.length cap2] w fun e w' => e = .returned (.bool true) ∧ Below w.heap.size w w' := by
  obtain ⟨F, hF⟩ : ∃ F, F = 12 * (l1.length + l2.length + 20) + 9 := ⟨_, rfl⟩
  have hf1 : ∀ ms, cut rdN l1 0 = .ok ms → progL (mf ms) LW5 F [] 0 ≠ .out := fuel_ok l1 LW5 F (by omega)
  have hf2 : ∀ ms, cut rdN l2 0 = .ok ms → progL (mf ms) LW5 F [] 0 ≠ .out := fuel_ok l2 LW5 F (by omega)
  have hbl : (blk l1).length = l1.length + 7 := by unfold blk; simp
  have hf3 : ∀ ms, cut rdN (blk l1) 0 = .ok ms → progL (mf ms) LW5 F [] 0 ≠ .out := fuel_ok (blk l1) LW5 F (by omega)
  have HF : Hid (12 * (l1.length + 1) + 9 ≤ F ∧ 12 * (l2.length + 1) + 9 ≤ F ∧ 12 * ((blk l1).length + 1) + 9 ≤ F) := ⟨by omega, by omega, by omega⟩
  clear hF
  go_enter Tryd.func3, Tryd.ntmps3
  go_wp2_with fail
  refine (awake5_any w hT).mono ?_
  rintro e w1 ⟨rfl, hb1⟩
  have m1 := read5_any ao1 cap1 l1 hc1 w1 (h1.up hb1) F hf1
  go_wp2_with fail
  refine m1.mono ?_
  rintro e w2 ⟨hb2, hrd1⟩
  have hB2 := Below.thn hb1 hb2
  clear m1 hb1 hb2 hf1
  rcases hrd1 with ⟨ms1, gs1, j1, a1, c1, y1, k1, p1, rfl, fl1⟩ | ⟨_, rfl⟩
  · have hok1 : PrgOk gs1 := prgOk y1 HF.out.1 k1 p1
    have hb3 := below_alloc w2 (.cells #[.slice a1 gs1.length c1] 26)
    have hP3 := Bk.new w2 26 #[.slice a1 gs1.length c1]
    have hB3 := Below.thn hB2 hb3
    have fl3 := fl1.up hb3
    generalize hW : w2.alloc (.cells #[.slice a1 gs1.length c1] 26) = W3 at *
    have m2 := read5_any ao2 cap2 l2 hc2 W3 (h2.up hB3) F hf2
    have HO1 : Hid (PrgOk gs1) := hok1
    have HC1 : Hid (cut rdN l1 0 = .ok ms1 ∧ progL (mf ms1) LW5 F [] 0 = .ok gs1 j1) := ⟨k1, p1⟩
    clear hok1 k1 p1 y1 fl1 hB2 hb3 hf2
    go_wp2_with fail
    first | rw [hW] | skip
    clear hW
    refine m2.mono ?_
    rintro e w4 ⟨hb4, hrd2⟩
    have hB4 := Below.thn hB3 hb4
    have fl4 := fl3.up hb4
    have hP4 := hP3.up hb4
    clear m2 hB3 fl3 hP3 hb4
    rcases hrd2 with ⟨ms2, gs2, j2, a2, c2, y2, k2, p2, rfl, fl2⟩ | ⟨_, rfl⟩
    · have hok2 : PrgOk gs2 := prgOk y2 HF.out.2.1 k2 p2
      have HO2 : Hid (PrgOk gs2) := hok2
      have HC2 : Hid (cut rdN l2 0 = .ok ms2 ∧ progL (mf ms2) LW5 F [] 0 = .ok gs2 j2) := ⟨k2, p2⟩
      have hb5 := below_alloc w4 (.cells #[.slice a2 gs2.length c2] 26)
      have hQ5 := Bk.new w4 26 #[.slice a2 gs2.length c2]
      have hB5 := Below.thn hB4 hb5
      have fl5 := fl4.up hb5
      have fm5 := fl2.up hb5
      have hP5 := hP4.up hb5
      clear hok2 k2 p2 y2 fl2 fl4 hB4 hb5 hP4
      go_upto_region 7 with fail
      generalize w4.alloc (.cells #[.slice a2 gs2.length c2] 26) = W5 at *
      have hcs := Lib.run_convert_bytes_const (P := Tryd.prog) W5 22 5 #[.int .u8 32, .int .u8 35, .int .u8 120, .int .u8 10, .int .u8 9] 5 5 (by kernel_rfl) (by kernel_rfl)
      have hb6 := below_alloc W5 (.cells #[.int .u8 32, .int .u8 35, .int .u8 120, .int .u8 10, .int .u8 9] 5 (5, 6))
      have ho6 : OwnM (W5.alloc (.cells #[.int .u8 32, .int .u8 35, .int .u8 120, .int .u8 10, .int .u8 9] 5 (5, 6))) W5.heap.size (.slice (some ⟨W5.heap.size, 0, none⟩) 5 5) [32, 35, 120, 10, 9] :=
        ⟨W5.heap.size, 5, _, _, rfl, Nat.le_refl _, heap_alloc_new W5 _, fun j h1 h2 => by simp at h1; omega, by decide, by decide, rfl, fun j hj => by
          have : j = 0 ∨ j = 1 ∨ j = 2 ∨ j = 3 ∨ j = 4 := by simp at hj; omega
          rcases this with rfl | rfl | rfl | rfl | rfl <;> rfl⟩
      obtain ⟨v7, w7, hr7, ho7, hb7⟩ := ownm_app _ W5.heap.size _ _ ho6 (by simp) ao1 cap1 l1 ((h1.up hB5).up hb6) hn1 (by simp; omega)
      obtain ⟨v8, w8, hr8, ho8, hb8⟩ := ownm_str w7 W5.heap.size v7 _ ho7 (by have := hb7.size; simp at this; omega) [10, 32] (by simp; omega)
      have hB58 : Below W5.heap.size W5 w8 := (hb6.trans hb7).trans hb8
      obtain ⟨T8, hT8⟩ : ∃ T, T = blk l1 := ⟨_, rfl⟩
      have ho9 : OwnM w8 W5.heap.size v8 T8 := by rw [hT8]; exact ho8
      obtain ⟨ao8, cap8, rfl, hbd8, hcap8⟩ := ho9.bd
      rw [← hT8] at hf3 HF
      have hB8 := Below.thn hB5 hB58
      have fl8 := fl5.up hB58
      have fm8 := fm5.up hB58
      have hP8 := hP5.up hB58
      have hQ8 := hQ5.up hB58
      have m3 := read5_any ao8 cap8 T8 hcap8 w8 hbd8 F hf3
      have HT8 : Hid (T8 = blk l1) := hT8
      clear ho6 ho7 ho8 ho9 hb6 hb7 hb8 hB58 hbd8 hT8 fl5 fm5 hP5 hQ5 hbl
      go_wp2_with (first
        | refine wpList_append_run rfl (.tmp 31) (.tmp 32) 22 rfl rfl _ _ rfl rfl v7 w7 hr7 ?_
        | refine wpList_append_runS rfl (.tmp 33) (.const (.string ⟨#[10, 32]⟩)) 22 9 rfl rfl _ _ rfl rfl (.slice ao8 T8.length cap8) w8 hr8 ?_)
      refine m3.mono ?_
      rintro e w9 ⟨hb9, hrd3⟩
      have hB9 := Below.thn hB8 hb9
      have fl9 := fl8.up hb9
      have fm9 := fm8.up hb9
      have hP9 := hP8.up hb9
      have hQ9 := hQ8.up hb9
      have HTX : Hid (prT gs1 = prT gs2 → LiR (FnR tt) gs1 gs2) := fun h => one_text rd_back (by decide) (by decide) HC1.out.1 HC1.out.2 HC2.out.1 HC2.out.2 HO1.out.ne HO2.out.ne h
      clear m3 hb9 hB8 fl8 fm8 hP8 hQ8 hr7 hr8 hcs hf3 hB5 h2
      rcases hrd3 with ⟨ms3, gs3, j3, a3, c3, y3, k3, p3, rfl, fl3⟩ | ⟨_, rfl⟩
      · have hok3 : PrgOk gs3 := prgOk y3 HF.out.2.2 k3 p3
        have hT3 : prT gs3 = prT gs1 := (prT_R (blk_same rdN LW5 l1 HC1.out.1 HC1.out.2 (HT8.out ▸ k3) p3)).symm
        have hb10 := below_alloc w9 (.cells #[.slice a3 gs3.length c3] 26)
        have hR10 := Bk.new w9 26 #[.slice a3 gs3.length c3]
        have hB10 := Below.thn hB9 hb10
        have fl10 := fl9.up hb10
        have fm10 := fm9.up hb10
        have fr10 := fl3.up hb10
        have hP10 := hP9.up hb10
        have hQ10 := hQ9.up hb10
        have HO3 : Hid (PrgOk gs3) := hok3
        clear hok3 y3 k3 p3 fl3 fl9 fm9 hP9 hQ9 hB9 hb10
        go_upto_region 8 with fail
        generalize w9.alloc (.cells #[.slice a3 gs3.length c3] 26) = W10 at *
        go_cut [45] (fun v wx => v = .bool false ∧ Below W10.heap.size W10 wx)
        case first =>
          refine wp_region_any (by kernel_rfl) ?_
          refine one8t (X0 := W10) (b5 := w2.heap.size) (b9 := w9.heap.size) (tab_keep hT hB10) HO1.out HO3.out hT3 (by show 55 ≤ 55; decide) rfl rfl rfl (fun W hW => (hP10.up hW).cell 0) (fun W hW => (hR10.up hW).cell 0) fl10 fr10 (Below.refl _ _).drew ?_
          intro a W hO hW e45
          obtain ⟨y38, y39, y40, y41, y42, y43, y44, y45, e', rfl⟩ := off55 hO
          rw [e'] at e45
          subst e45
          clear hO e'
          go_wp2_with fail
          go_meet
          case rel => exact ⟨rfl, hW⟩
        case rest =>
          obtain ⟨rfl, hB11⟩ := hcut
          go_upto_region 10 with fail
          refine wp_region_any (by kernel_rfl) ?_
          refine one10 (X0 := W10) (b5 := w2.heap.size) (b7 := w4.heap.size) (tab_keep hT hB10) HO1.out HO2.out HTX.out (by show 55 ≤ 55; decide) rfl rfl (fun W hW => (hP10.up hW).cell 0) (fun W hW => (hQ10.up hW).cell 0) fl10 fm10 hB11.drew ?_
          intro a W hdf hW e4
          have HE : Hid (Below w.heap.size w W) := Below.thn hB10 hW
          have e4' : a.tmps[4]?.getD undef = .bool true := by rw [← e4]; simp [Rv.ev, Act.eval]
          have hdf' : a.defers = [] := hdf
          go_wp2_with fail
          exact bodyPost_ret (v := .bool true) (by simp only [results, Tryd.results3]; simp [go_sem, e4']) hdf' ⟨rfl, HE.out⟩
      · have hb10 := below_alloc w9 (.cells #[.slice none 0 0] 26)
        have hB10 := Below.thn hB9 hb10
        have fl10 := fl9.up hb10
        have fm10 := fm9.up hb10
        have hP10 := hP9.up hb10
        have hQ10 := hQ9.up hb10
        clear fl9 fm9 hP9 hQ9 hB9 hb10
        go_upto_region 8 with fail
        generalize w9.alloc (.cells #[.slice none 0 0] 26) = W10 at *
        go_cut [45] (fun v wx => v = .bool false ∧ Below W10.heap.size W10 wx)
        case first =>
          refine wp_region_any (by kernel_rfl) ?_
          refine one8f (X0 := W10) (by show 55 ≤ 55; decide) rfl (Below.refl _ _).drew ?_
          intro a W hO hW e45
          obtain ⟨y38, y39, y40, y41, y42, y43, y44, y45, e', rfl⟩ := off55 hO
          rw [e'] at e45
          subst e45
          clear hO e'
          go_wp2_with fail
          go_meet
          case rel => exact ⟨rfl, hW⟩
        case rest =>
          obtain ⟨rfl, hB11⟩ := hcut
          go_upto_region 10 with fail
          refine wp_region_any (by kernel_rfl) ?_
          refine one10 (X0 := W10) (b5 := w2.heap.size) (b7 := w4.heap.size) (tab_keep hT hB10) HO1.out HO2.out HTX.out (by show 55 ≤ 55; decide) rfl rfl (fun W hW => (hP10.up hW).cell 0) (fun W hW => (hQ10.up hW).cell 0) fl10 fm10 hB11.drew ?_
          intro a W hdf hW e4
          have HE : Hid (Below w.heap.size w W) := Below.thn hB10 hW
          have e4' : a.tmps[4]?.getD undef = .bool true := by rw [← e4]; simp [Rv.ev, Act.eval]
          have hdf' : a.defers = [] := hdf
          go_wp2_with fail
          exact bodyPost_ret (v := .bool true) (by simp only [results, Tryd.results3]; simp [go_sem, e4']) hdf' ⟨rfl, HE.out⟩
    · have hB5 := Below.thn hB4 (below_alloc w4 (.cells #[.slice none 0 0] 26))
      go_wp2_with fail
      go_ret
      exact ⟨rfl, hB5⟩
  · have hb3 := below_alloc w2 (.cells #[.slice none 0 0] 26)
    have hB3 := Below.thn hB2 hb3
    have m2 := read5_any ao2 cap2 l2 hc2 _ (h2.up hB3) F hf2
    clear hB2 hb3 hf2
    go_wp2_with fail
    refine m2.mono ?_
    rintro e w4 ⟨hb4, hrd2⟩
    have hB4 := Below.thn hB3 hb4
    clear m2 hB3 hb4
    rcases hrd2 with ⟨ms2, gs2, j2, a2, c2, y2, k2, p2, rfl, fl2⟩ | ⟨_, rfl⟩
    · have hB5 := Below.thn hB4 (below_alloc w4 (.cells #[.slice a2 gs2.length c2] 26))
      go_wp2_with fail
      go_ret
      exact ⟨rfl, hB5⟩
    · have hB5 := Below.thn hB4 (below_alloc w4 (.cells #[.slice none 0 0] 26))
      go_wp2_with fail
      go_ret
      exact ⟨rfl, hB5⟩
end Go.Proofs.YtndgglhppoijnaaDoor
