/-
  The walk of sum.
-/
import Derived.Test.YtflennpocpbbpaaGreatDoorNh
import Derived.ScopeJumps
import Derived.Deep.RegionWith
namespace Go.Proofs.YtflennpocpbbpaaGreatDoor
open Go.RowKit
set_option maxRecDepth 100000

/-- Where the reader is. -/
def posOf (R : Nat) (w : World) : Nat := match w.cell? ⟨R, 1, none⟩ with | some (.int _ i) => i.toNat | _ => 0
theorem Rdr.pos {I : Rdi} {w : World} {R k d : Nat} (h : Rdr I w R k d) : posOf R w = k := by
  unfold posOf
  rw [show w.cell? ⟨R, 1, none⟩ = some (.int .i64 k) from h.blk.cell 1]
  simp

/-- What holds where a row of operands goes round. -/
def SJ (I : Rdi) (f : Nat) (w : World) (R d : Nat) (C : Nat → Ex → Nat → Prop) (a : Act) (w' : World) : Prop :=
  ∃ (U : Nat → Value) (gL k1 g : Nat) (x : Ex) (vs : List Value), a = ⟨#[.pointer (some ⟨R, 0, none⟩), U 1, .pointer (some ⟨w.heap.size, 0, none⟩), .pointer (some ⟨gL, 0, none⟩), U 4, U 5, U 6, U 7, U 8, U 9, U 10, U 11, U 12, U 13, U 14, U 15, U 16, U 17, U 18, U 19, U 20, U 21, U 22, U 23, U 24, U 25], []⟩ ∧
    Rdr I w' R k1 d ∧ But R w w' ∧ Bk w' w.heap.size 53 [.int .i64 0, .string ⟨#[]⟩, .string ⟨#[]⟩, .int .i64 0, .complex .f64 0 0, .slice none 0 0, .int .i64 0] ∧ Bk w' gL 53 vs ∧ ExW w' (fun b => w.heap.size + 1 ≤ b ∧ b ≠ gL) x vs ∧ w.heap.size < gL ∧ g ≤ f ∧ C g x k1

theorem SJ.mk {I : Rdi} {f : Nat} {w : World} {R d : Nat} {C : Nat → Ex → Nat → Prop} {w' : World} {x1 x4 x5 x6 x7 x8 x9 x10 x11 x12 x13 x14 x15 x16 x17 x18 x19 x20 x21 x22 x23 x24 x25 : Value} (gL k1 g : Nat) (x : Ex) (vs : List Value) (h1 : Rdr I w' R k1 d) (h2 : But R w w') (h3 : Bk w' w.heap.size 53 [.int .i64 0, .string ⟨#[]⟩, .string ⟨#[]⟩, .int .i64 0, .complex .f64 0 0, .slice none 0 0, .int .i64 0]) (h4 : Bk w' gL 53 vs) (h5 : ExW w' (fun b => w.heap.size + 1 ≤ b ∧ b ≠ gL) x vs) (h6 : w.heap.size < gL) (h7 : g ≤ f) (h8 : C g x k1) :
    SJ I f w R d C ⟨#[.pointer (some ⟨R, 0, none⟩), x1, .pointer (some ⟨w.heap.size, 0, none⟩), .pointer (some ⟨gL, 0, none⟩), x4, x5, x6, x7, x8, x9, x10, x11, x12, x13, x14, x15, x16, x17, x18, x19, x20, x21, x22, x23, x24, x25], []⟩ w' :=
  ⟨fun i => match i with | 1 => x1 | 4 => x4 | 5 => x5 | 6 => x6 | 7 => x7 | 8 => x8 | 9 => x9 | 10 => x10 | 11 => x11 | 12 => x12 | 13 => x13 | 14 => x14 | 15 => x15 | 16 => x16 | 17 => x17 | 18 => x18 | 19 => x19 | 20 => x20 | 21 => x21 | 22 => x22 | 23 => x23 | 24 => x24 | 25 => x25 | _ => undef, gL, k1, g, x, vs, rfl, h1, h2, h3, h4, h5, h6, h7, h8⟩

theorem ExW.but2 {w w' : World} {A : Nat → Prop} {R : Nat} {e : Ex} {vs : List Value} (h : ExW w A e vs) (hU : But R w w') (hA : ∀ b, A b → b ≠ R) : ExW w' A e vs := h.keep fun b hb hl => hU.block b hl (hA b hb)
theorem ExW.oth2 {w w' : World} {A : Nat → Prop} {g : Nat} {e : Ex} {vs : List Value} (h : ExW w A e vs) (hU : Oth g w w') (hA : ∀ b, A b → b ≠ g) : ExW w' A e vs := h.keep fun b hb _ => hU.block b (hA b hb)

end Go.Proofs.YtflennpocpbbpaaGreatDoor
