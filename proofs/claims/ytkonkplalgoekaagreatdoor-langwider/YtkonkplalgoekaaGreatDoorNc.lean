/-
  What a reading answers; the walks of stands, giveUp, pass, must, name, nameOf, typeWord, enter, leave.
-/
import Derived.Test.YtkonkplalgoekaaGreatDoorNb
namespace Go.Proofs.YtkonkplalgoekaaGreatDoor
open Go.RowKit
set_option maxRecDepth 100000

def gaveUp (I : Rdi) (y : Int) (k : Nat) : Ending := .panicked [{ v := .iface 33 (.agg #[.int .i64 y, .int .i64 (I.M k).at_]), recovered := false }]

/-- What a reading answers: a value, the reader moved on; or it gives up. -/
def Ans (I : Rdi) (R d : Nat) (w : World) {α : Type} (V : World → α → Value → Prop) (r : Rs α) (e : Ending) (w' : World) : Prop :=
  But R w w' ∧ match r with
  | .ok a k => (∃ v, e = .returned v ∧ V w' a v) ∧ Rdr I w' R k d
  | .bad y k => e = gaveUp I y k
  | .out => True

theorem bind_ne {α β : Type} {r : Rs β} {q : Rs α} {g : α → Nat → Rs β} (h : Hid (r = q.bind g)) (hr : r ≠ .out) : q ≠ .out := by
  intro e
  rw [show r = _ from h, e] at hr
  exact hr rfl
theorem bind_ok {α β : Type} {r : Rs β} {q : Rs α} {g : α → Nat → Rs β} {a : α} {k : Nat} (h : Hid (r = q.bind g)) (hq : q = .ok a k) : Hid (r = g a k) := by
  show r = _
  rw [show r = _ from h, hq]
  rfl
theorem bind_bad {α β : Type} {r : Rs β} {q : Rs α} {g : α → Nat → Rs β} {y : Int} {k : Nat} (h : Hid (r = q.bind g)) (hq : q = .bad y k) : Hid (r = .bad y k) := by
  show r = _
  rw [show r = _ from h, hq]
  rfl

theorem ans_bad {I : Rdi} {R d : Nat} {w w' : World} {α : Type} {V : World → α → Value → Prop} {r : Rs α} {y : Int} {k : Nat} {e : Ending} (h : Hid (r = .bad y k)) (hU : But R w w') (he : e = gaveUp I y k) : Ans I R d w V r e w' := by
  rw [show r = _ from h]
  exact ⟨hU, he⟩
theorem ans_ok {I : Rdi} {R d : Nat} {w w' : World} {α : Type} {V : World → α → Value → Prop} {r : Rs α} {a : α} {k : Nat} {v : Value} (h : Hid (r = .ok a k)) (hU : But R w w') (hv : V w' a v) (hr : Rdr I w' R k d) : Ans I R d w V r (.returned v) w' := by
  rw [show r = _ from h]
  exact ⟨hU, ⟨v, rfl, hv⟩, hr⟩

theorem tk_eq (I : Rdi) (s : List UInt8) (k : Nat) : ((bs (I.M k).text).toList == (bs s).toList) = tk I.M s k := by rw [bs_toList, bs_toList]; rfl

/-- A field of a mark that is a value. -/
theorem fld (j : Nat) (k t n a v : Value) (h : [k, t, n, a][j]? = some v) (W : World) : (Instr.field 42 (.agg #[k, t, n, a]) j).run Tryz.prog W = .ok v W := by
  unfold Instr.field
  rw [Sem.run_bind, run_underlying (show Tryz.prog.underlying 42 = some (.struct (Tryz.prog.underlying 42 |>.map (fun | .struct f => f | _ => #[]) |>.getD #[])) by kernel_rfl) W]
  match j, h with
  | 0, h => cases h; rfl
  | 1, h => cases h; rfl
  | 2, h => cases h; rfl
  | 3, h => cases h; rfl

set_option maxHeartbeats 1000000 in
theorem stands_any (I : Rdi) (s : List UInt8) (w : World) (R k d : Nat) (h : Rdr I w R k d) :
    Calls Tryz.prog 84 #[.pointer (some ⟨R, 0, none⟩), .string (bs s)] w fun e w' => e = .returned (.bool (tk I.M s k)) ∧ Below w.heap.size w w' := by
  have ht := tk_eq I s k
  have hf := fun W => fld 1 (.int .i64 (I.M k).kind) (.string (bs (I.M k).text)) (.complex .f64 (fl (I.M k).p) (fl (I.M k).q)) (.int .i64 (I.M k).at_) _ rfl W
  go_enter Tryz.func84, Tryz.ntmps84
  go_wp2_with (go_at_call 30; refine (next_any I _ R k d h).mono ?_; rintro e w1 ⟨rfl, hb1⟩; unfold mkV)
  go_ret
  exact ⟨rfl, hb1⟩

set_option maxHeartbeats 1000000 in
theorem giveUp_any (I : Rdi) (y : Int) (w : World) (R k d : Nat) (h : Rdr I w R k d) :
    Calls Tryz.prog 60 #[.pointer (some ⟨R, 0, none⟩), .int .i64 y] w fun e w' => e = gaveUp I y k ∧ Below w.heap.size w w' := by
  have hf := fun W => fld 3 (.int .i64 (I.M k).kind) (.string (bs (I.M k).text)) (.complex .f64 (fl (I.M k).p) (fl (I.M k).q)) (.int .i64 (I.M k).at_) _ rfl W
  go_enter Tryz.func60, Tryz.ntmps60
  go_wp2_with (go_at_call 30; refine (next_any I _ R k d h).mono ?_; rintro e w1 ⟨rfl, hb1⟩; unfold mkV)
  exact ⟨rfl, rfl, hb1⟩

set_option maxHeartbeats 1000000 in
theorem pass_yes (I : Rdi) (s : List UInt8) (w : World) (R k d : Nat) (h : Rdr I w R k d) (ht : tk I.M s k = true) (hk : k + 1 < I.n) :
    Calls Tryz.prog 62 #[.pointer (some ⟨R, 0, none⟩), .string (bs s)] w fun e w' => e = .returned (.bool true) ∧ Rdr I w' R (k + 1) d ∧ But R w w' := by
  have hs := stands_any I s w R k d h
  rw [ht] at hs
  clear ht
  go_enter Tryz.func62, Tryz.ntmps62
  go_wp2_with (first
    | (go_at_call 84; refine hs.mono ?_; rintro e w1 ⟨rfl, hb1⟩)
    | (go_at_call 83; refine (take_any I w1 R k d (h.up hb1) hk).mono ?_; rintro e w2 ⟨rfl, h2, hU⟩))
  go_ret
  exact ⟨rfl, h2, (bel_but hb1 R).trans hU⟩

set_option maxHeartbeats 1000000 in
theorem pass_no (I : Rdi) (s : List UInt8) (w : World) (R k d : Nat) (h : Rdr I w R k d) (ht : tk I.M s k = false) :
    Calls Tryz.prog 62 #[.pointer (some ⟨R, 0, none⟩), .string (bs s)] w fun e w' => e = .returned (.bool false) ∧ Below w.heap.size w w' := by
  have hs := stands_any I s w R k d h
  rw [ht] at hs
  clear ht
  go_enter Tryz.func62, Tryz.ntmps62
  go_wp2_with (go_at_call 84; refine hs.mono ?_; rintro e w1 ⟨rfl, hb1⟩)
  go_ret
  exact ⟨rfl, hb1⟩

set_option maxHeartbeats 1000000 in
theorem must_any (I : Rdi) (hE : Ends I.M I.n) (s : List UInt8) (hs : s ≠ []) (w : World) (R k d : Nat) (h : Rdr I w R k d) :
    Calls Tryz.prog 41 #[.pointer (some ⟨R, 0, none⟩), .string (bs s)] w fun e w' => Ans I R d w (fun _ _ v => v = .tuple #[]) (mustP I.M s k) e w' := by
  cases ht : tk I.M s k with
  | true =>
    have HR : Hid (mustP I.M s k = .ok () (k + 1)) := by show _ = _; unfold mustP; rw [if_pos ht]
    generalize mustP I.M s k = r at *
    have hp := pass_yes I s w R k d h ht (hE.tk I.M ht hs h.kn)
    clear ht
    go_enter Tryz.func41, Tryz.ntmps41
    go_wp2_with (go_at_call 62; refine hp.mono ?_; rintro e w1 ⟨rfl, h1, hU⟩)
    go_end0
    exact ans_ok HR hU rfl h1
  | false =>
    have HR : Hid (mustP I.M s k = .bad 21 k) := by show _ = _; unfold mustP; rw [if_neg (by rw [ht]; simp)]
    generalize mustP I.M s k = r at *
    have hp := pass_no I s w R k d h ht
    clear ht
    go_enter Tryz.func41, Tryz.ntmps41
    go_wp2_with (first
      | (go_at_call 62; refine hp.mono ?_; rintro e w1 ⟨rfl, hb1⟩)
      | (go_at_call 60; refine (giveUp_any I 21 w1 R k d (h.up hb1)).mono ?_; rintro e w2 ⟨rfl, hb2⟩; unfold gaveUp))
    exact ⟨rfl, ans_bad HR (bel_but (Below.thn hb1 hb2) R) rfl⟩
end Go.Proofs.YtkonkplalgoekaaGreatDoor
