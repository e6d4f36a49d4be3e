/-
  5 texts in one: what each proves stands at its head.
-/
import Derived.Test.YtndgglhppoijnaaDoorUX
import Derived.Test.YtndgglhppoijnaaDoorSc
import Derived.Test.YtndgglhppoijnaaDoorUj
import Derived.Test.YtndgglhppoijnaaDoorBm
import Derived.Test.YtndgglhppoijnaaDoorSe
import Derived.Test.YtndgglhppoijnaaDoorUW
import Derived.Deep.DeepCutAuto
import Derived.Deep.RegionHeld3
import Derived.Test.YtndgglhppoijnaaDoorSo
import Derived.Test.YtndgglhppoijnaaDoorBb
import Derived.Lib.SlBytesConst
/-
  The writer's walks: an expression without brackets, and with.
-/
namespace Go.Proofs.YtndgglhppoijnaaDoor
open Go.RowKit
set_option maxRecDepth 100000

theorem tab_low {w0 w : World} (h : Tab w0) (hb : Below w0.heap.size w0 w) : Tab w := tab_keep h hb

set_option maxHeartbeats 4000000 in
theorem bare_num {w0 : World} {A : Nat → Prop} {name tail : List UInt8} {ty p q : Int} {xs : List Ex} {pos : Nat} {es : List Value} (hx : ExW w0 A (.mk 1 name tail ty p q xs pos) es) (hT : Tab w0) (hp : p.natAbs ≤ 16777216) (hq : q.natAbs ≤ 16777216) : BaC 24 w0 (.mk 1 name tail ty p q xs pos) es := by
  intro b l w hS hlen
  cases hx with
  | mk hl =>
    rename_i ao c
    have hb1 := below_alloc w (.cells #[.int .i64 1, .string (bs name), .string (bs tail), .int .i64 ty, .complex .f64 (fl p) (fl q), .slice ao xs.length c, .int .i64 pos] 39)
    have hS1 := hS.up hb1
    have hE1 := Bk.new w 39 #[.int .i64 1, .string (bs name), .string (bs tail), .int .i64 ty, .complex .f64 (fl p) (fl q), .slice ao xs.length c, .int .i64 pos]
    have hK1 := Kp.of_up (b := b) hb1 hS.le
    have hcb : w.heap.size ≠ b := by have := hS.wr.lt; omega
    clear hS hb1 hl
    generalize hW : w.alloc (.cells #[.int .i64 1, .string (bs name), .string (bs tail), .int .i64 ty, .complex .f64 (fl p) (fl q), .slice ao xs.length c, .int .i64 pos] 39) = W1 at *
    have HS1 : Hid (St5 w0 b l W1) := hS1
    have HE1 : Hid (Bk W1 w.heap.size 39 [.int .i64 1, .string (bs name), .string (bs tail), .int .i64 ty, .complex .f64 (fl p) (fl q), .slice ao xs.length c, .int .i64 pos]) := hE1
    have HK1 : Hid (Kp w0.heap.size b w W1) := hK1
    have HC : Hid (w.heap.size ≠ b) := hcb
    have HB : Hid (_ ≤ 140737488355328) := hlen
    clear hS1 hE1 hK1 hcb hlen
    go_enter Tryd.func24, Tryd.ntmps24
    go_upto_region 1 with fail
    first | rw [hW] | skip
    clear hW
    obtain ⟨c0, c1, c2, c3, c4, c5, _⟩ := Bk.seven (show Bk W1 w.heap.size 39 [_, _, _, _, _, _, _] from HE1.out)
    have hnum := number_w p q W1 (tab_low hT HS1.out.low) hp hq
    go_wp2_with fail
    refine hnum.mono ?_
    rintro r wn ⟨rfl, hbn⟩
    have HS1b : Hid (St5 w0 b l wn) := HS1.out.up hbn
    have HK1b : Hid (Kp w0.heap.size b w wn) := HK1.out.trans (Kp.of_up hbn HS1.out.le)
    clear hbn hnum
    go_wp2_with fail
    refine (add_st HS1b.out [txt p q] _ rfl 1 rfl (by decide) (by have := HB.out; rw [shE_mk] at this; simpa [fm] using this)).mono ?_
    rintro r W2 ⟨rfl, hS, hK⟩
    have HS2 : Hid (St5 w0 b _ W2) := hS
    have HK2 : Hid (Kp w0.heap.size b w W2) := HK1b.out.trans hK
    clear hS hK
    go_wp2
    go_end0
    refine ⟨rfl, ?_, HK2.out⟩
    have := HS2.out
    rw [shE_mk]
    simpa [fm] using this

set_option maxHeartbeats 4000000 in
theorem bare_true {w0 : World} {A : Nat → Prop} {name tail : List UInt8} {ty p q : Int} {xs : List Ex} {pos : Nat} {es : List Value} (hx : ExW w0 A (.mk 2 name tail ty p q xs pos) es) : BaC 24 w0 (.mk 2 name tail ty p q xs pos) es := by
  intro b l w hS hlen
  cases hx with
  | mk hl =>
    rename_i ao c
    have hb1 := below_alloc w (.cells #[.int .i64 2, .string (bs name), .string (bs tail), .int .i64 ty, .complex .f64 (fl p) (fl q), .slice ao xs.length c, .int .i64 pos] 39)
    have hS1 := hS.up hb1
    have hE1 := Bk.new w 39 #[.int .i64 2, .string (bs name), .string (bs tail), .int .i64 ty, .complex .f64 (fl p) (fl q), .slice ao xs.length c, .int .i64 pos]
    have hK1 := Kp.of_up (b := b) hb1 hS.le
    have hcb : w.heap.size ≠ b := by have := hS.wr.lt; omega
    clear hS hb1 hl
    generalize hW : w.alloc (.cells #[.int .i64 2, .string (bs name), .string (bs tail), .int .i64 ty, .complex .f64 (fl p) (fl q), .slice ao xs.length c, .int .i64 pos] 39) = W1 at *
    have HS1 : Hid (St5 w0 b l W1) := hS1
    have HE1 : Hid (Bk W1 w.heap.size 39 [.int .i64 2, .string (bs name), .string (bs tail), .int .i64 ty, .complex .f64 (fl p) (fl q), .slice ao xs.length c, .int .i64 pos]) := hE1
    have HK1 : Hid (Kp w0.heap.size b w W1) := hK1
    have HC : Hid (w.heap.size ≠ b) := hcb
    have HB : Hid (_ ≤ 140737488355328) := hlen
    clear hS1 hE1 hK1 hcb hlen
    go_enter Tryd.func24, Tryd.ntmps24
    go_upto_region 1 with fail
    first | rw [hW] | skip
    clear hW
    obtain ⟨c0, c1, c2, c3, c4, c5, _⟩ := Bk.seven (show Bk W1 w.heap.size 39 [_, _, _, _, _, _, _] from HE1.out)
    go_wp2_with fail
    refine (word_w (op := 2) (by decide) W1).mono ?_
    rintro r wq ⟨rfl, hwq⟩
    rw [hwq]
    clear hwq
    go_wp2_with fail
    refine (add_st HS1.out [wordT 2] _ rfl 1 rfl (by decide) (by have := HB.out; rw [shE_mk] at this; simpa [fm] using this)).mono ?_
    rintro r W2 ⟨rfl, hS, hK⟩
    have HS2 : Hid (St5 w0 b _ W2) := hS
    have HK2 : Hid (Kp w0.heap.size b w W2) := HK1.out.trans hK
    clear hS hK
    go_wp2
    go_end0
    refine ⟨rfl, ?_, HK2.out⟩
    have := HS2.out
    rw [shE_mk]
    simpa [fm] using this

set_option maxHeartbeats 4000000 in
theorem bare_false {w0 : World} {A : Nat → Prop} {name tail : List UInt8} {ty p q : Int} {xs : List Ex} {pos : Nat} {es : List Value} (hx : ExW w0 A (.mk 3 name tail ty p q xs pos) es) : BaC 24 w0 (.mk 3 name tail ty p q xs pos) es := by
  intro b l w hS hlen
  cases hx with
  | mk hl =>
    rename_i ao c
    have hb1 := below_alloc w (.cells #[.int .i64 3, .string (bs name), .string (bs tail), .int .i64 ty, .complex .f64 (fl p) (fl q), .slice ao xs.length c, .int .i64 pos] 39)
    have hS1 := hS.up hb1
    have hE1 := Bk.new w 39 #[.int .i64 3, .string (bs name), .string (bs tail), .int .i64 ty, .complex .f64 (fl p) (fl q), .slice ao xs.length c, .int .i64 pos]
    have hK1 := Kp.of_up (b := b) hb1 hS.le
    have hcb : w.heap.size ≠ b := by have := hS.wr.lt; omega
    clear hS hb1 hl
    generalize hW : w.alloc (.cells #[.int .i64 3, .string (bs name), .string (bs tail), .int .i64 ty, .complex .f64 (fl p) (fl q), .slice ao xs.length c, .int .i64 pos] 39) = W1 at *
    have HS1 : Hid (St5 w0 b l W1) := hS1
    have HE1 : Hid (Bk W1 w.heap.size 39 [.int .i64 3, .string (bs name), .string (bs tail), .int .i64 ty, .complex .f64 (fl p) (fl q), .slice ao xs.length c, .int .i64 pos]) := hE1
    have HK1 : Hid (Kp w0.heap.size b w W1) := hK1
    have HC : Hid (w.heap.size ≠ b) := hcb
    have HB : Hid (_ ≤ 140737488355328) := hlen
    clear hS1 hE1 hK1 hcb hlen
    go_enter Tryd.func24, Tryd.ntmps24
    go_upto_region 1 with fail
    first | rw [hW] | skip
    clear hW
    obtain ⟨c0, c1, c2, c3, c4, c5, _⟩ := Bk.seven (show Bk W1 w.heap.size 39 [_, _, _, _, _, _, _] from HE1.out)
    go_wp2_with fail
    refine (word_w (op := 3) (by decide) W1).mono ?_
    rintro r wq ⟨rfl, hwq⟩
    rw [hwq]
    clear hwq
    go_wp2_with fail
    refine (add_st HS1.out [wordT 3] _ rfl 1 rfl (by decide) (by have := HB.out; rw [shE_mk] at this; simpa [fm] using this)).mono ?_
    rintro r W2 ⟨rfl, hS, hK⟩
    have HS2 : Hid (St5 w0 b _ W2) := hS
    have HK2 : Hid (Kp w0.heap.size b w W2) := HK1.out.trans hK
    clear hS hK
    go_wp2
    go_end0
    refine ⟨rfl, ?_, HK2.out⟩
    have := HS2.out
    rw [shE_mk]
    simpa [fm] using this

set_option maxHeartbeats 4000000 in
theorem bare_nil {w0 : World} {A : Nat → Prop} {name tail : List UInt8} {ty p q : Int} {xs : List Ex} {pos : Nat} {es : List Value} (hx : ExW w0 A (.mk 4 name tail ty p q xs pos) es) : BaC 24 w0 (.mk 4 name tail ty p q xs pos) es := by
  intro b l w hS hlen
  cases hx with
  | mk hl =>
    rename_i ao c
    have hb1 := below_alloc w (.cells #[.int .i64 4, .string (bs name), .string (bs tail), .int .i64 ty, .complex .f64 (fl p) (fl q), .slice ao xs.length c, .int .i64 pos] 39)
    have hS1 := hS.up hb1
    have hE1 := Bk.new w 39 #[.int .i64 4, .string (bs name), .string (bs tail), .int .i64 ty, .complex .f64 (fl p) (fl q), .slice ao xs.length c, .int .i64 pos]
    have hK1 := Kp.of_up (b := b) hb1 hS.le
    have hcb : w.heap.size ≠ b := by have := hS.wr.lt; omega
    clear hS hb1 hl
    generalize hW : w.alloc (.cells #[.int .i64 4, .string (bs name), .string (bs tail), .int .i64 ty, .complex .f64 (fl p) (fl q), .slice ao xs.length c, .int .i64 pos] 39) = W1 at *
    have HS1 : Hid (St5 w0 b l W1) := hS1
    have HE1 : Hid (Bk W1 w.heap.size 39 [.int .i64 4, .string (bs name), .string (bs tail), .int .i64 ty, .complex .f64 (fl p) (fl q), .slice ao xs.length c, .int .i64 pos]) := hE1
    have HK1 : Hid (Kp w0.heap.size b w W1) := hK1
    have HC : Hid (w.heap.size ≠ b) := hcb
    have HB : Hid (_ ≤ 140737488355328) := hlen
    clear hS1 hE1 hK1 hcb hlen
    go_enter Tryd.func24, Tryd.ntmps24
    go_upto_region 1 with fail
    first | rw [hW] | skip
    clear hW
    obtain ⟨c0, c1, c2, c3, c4, c5, _⟩ := Bk.seven (show Bk W1 w.heap.size 39 [_, _, _, _, _, _, _] from HE1.out)
    go_wp2_with fail
    refine (word_w (op := 4) (by decide) W1).mono ?_
    rintro r wq ⟨rfl, hwq⟩
    rw [hwq]
    clear hwq
    go_wp2_with fail
    refine (add_st HS1.out [wordT 4] _ rfl 1 rfl (by decide) (by have := HB.out; rw [shE_mk] at this; simpa [fm] using this)).mono ?_
    rintro r W2 ⟨rfl, hS, hK⟩
    have HS2 : Hid (St5 w0 b _ W2) := hS
    have HK2 : Hid (Kp w0.heap.size b w W2) := HK1.out.trans hK
    clear hS hK
    go_wp2
    go_end0
    refine ⟨rfl, ?_, HK2.out⟩
    have := HS2.out
    rw [shE_mk]
    simpa [fm] using this

set_option maxHeartbeats 4000000 in
theorem bare_var {w0 : World} {A : Nat → Prop} {name tail : List UInt8} {ty p q : Int} {xs : List Ex} {pos : Nat} {es : List Value} (hx : ExW w0 A (.mk 6 name tail ty p q xs pos) es) : BaC 24 w0 (.mk 6 name tail ty p q xs pos) es := by
  intro b l w hS hlen
  cases hx with
  | mk hl =>
    rename_i ao c
    have hb1 := below_alloc w (.cells #[.int .i64 6, .string (bs name), .string (bs tail), .int .i64 ty, .complex .f64 (fl p) (fl q), .slice ao xs.length c, .int .i64 pos] 39)
    have hS1 := hS.up hb1
    have hE1 := Bk.new w 39 #[.int .i64 6, .string (bs name), .string (bs tail), .int .i64 ty, .complex .f64 (fl p) (fl q), .slice ao xs.length c, .int .i64 pos]
    have hK1 := Kp.of_up (b := b) hb1 hS.le
    have hcb : w.heap.size ≠ b := by have := hS.wr.lt; omega
    clear hS hb1 hl
    generalize hW : w.alloc (.cells #[.int .i64 6, .string (bs name), .string (bs tail), .int .i64 ty, .complex .f64 (fl p) (fl q), .slice ao xs.length c, .int .i64 pos] 39) = W1 at *
    have HS1 : Hid (St5 w0 b l W1) := hS1
    have HE1 : Hid (Bk W1 w.heap.size 39 [.int .i64 6, .string (bs name), .string (bs tail), .int .i64 ty, .complex .f64 (fl p) (fl q), .slice ao xs.length c, .int .i64 pos]) := hE1
    have HK1 : Hid (Kp w0.heap.size b w W1) := hK1
    have HC : Hid (w.heap.size ≠ b) := hcb
    have HB : Hid (_ ≤ 140737488355328) := hlen
    clear hS1 hE1 hK1 hcb hlen
    go_enter Tryd.func24, Tryd.ntmps24
    go_upto_region 1 with fail
    first | rw [hW] | skip
    clear hW
    obtain ⟨c0, c1, c2, c3, c4, c5, _⟩ := Bk.seven (show Bk W1 w.heap.size 39 [_, _, _, _, _, _, _] from HE1.out)
    go_wp2_with fail
    refine (add_st HS1.out [name] _ rfl 1 rfl (by decide) (by have := HB.out; rw [shE_mk] at this; simpa [fm] using this)).mono ?_
    rintro r W2 ⟨rfl, hS, hK⟩
    have HS2 : Hid (St5 w0 b _ W2) := hS
    have HK2 : Hid (Kp w0.heap.size b w W2) := HK1.out.trans hK
    clear hS hK
    go_wp2
    go_end0
    refine ⟨rfl, ?_, HK2.out⟩
    have := HS2.out
    rw [shE_mk]
    simpa [fm] using this

set_option maxHeartbeats 4000000 in
theorem bare_fail {w0 : World} {A : Nat → Prop} {name tail : List UInt8} {ty p q : Int} {xs : List Ex} {pos : Nat} {es : List Value} (hx : ExW w0 A (.mk 5 name tail ty p q xs pos) es) (ht : ty = 1 ∨ ty = 2 ∨ ty = 3) : BaC 24 w0 (.mk 5 name tail ty p q xs pos) es := by
  intro b l w hS hlen
  cases hx with
  | mk hl =>
    rename_i ao c
    have hb1 := below_alloc w (.cells #[.int .i64 5, .string (bs name), .string (bs tail), .int .i64 ty, .complex .f64 (fl p) (fl q), .slice ao xs.length c, .int .i64 pos] 39)
    have hS1 := hS.up hb1
    have hE1 := Bk.new w 39 #[.int .i64 5, .string (bs name), .string (bs tail), .int .i64 ty, .complex .f64 (fl p) (fl q), .slice ao xs.length c, .int .i64 pos]
    have hK1 := Kp.of_up (b := b) hb1 hS.le
    have hcb : w.heap.size ≠ b := by have := hS.wr.lt; omega
    clear hS hb1 hl
    generalize hW : w.alloc (.cells #[.int .i64 5, .string (bs name), .string (bs tail), .int .i64 ty, .complex .f64 (fl p) (fl q), .slice ao xs.length c, .int .i64 pos] 39) = W1 at *
    have HS1 : Hid (St5 w0 b l W1) := hS1
    have HE1 : Hid (Bk W1 w.heap.size 39 [.int .i64 5, .string (bs name), .string (bs tail), .int .i64 ty, .complex .f64 (fl p) (fl q), .slice ao xs.length c, .int .i64 pos]) := hE1
    have HK1 : Hid (Kp w0.heap.size b w W1) := hK1
    have HC : Hid (w.heap.size ≠ b) := hcb
    have HB : Hid (_ ≤ 140737488355328) := hlen
    clear hS1 hE1 hK1 hcb hlen
    go_enter Tryd.func24, Tryd.ntmps24
    go_upto_region 1 with fail
    first | rw [hW] | skip
    clear hW
    obtain ⟨c0, c1, c2, c3, c4, c5, _⟩ := Bk.seven (show Bk W1 w.heap.size 39 [_, _, _, _, _, _, _] from HE1.out)
    have HT : Hid (ty = 1 ∨ ty = 2 ∨ ty = 3) := ht
    clear ht
    have hadd := add_st (HS1.out.up (Below.refl _ W1).drew) [wordT 5, [32], letT ty] _ rfl 3 rfl (by decide) (by have := HB.out; rw [shE_mk] at this; simpa [fm] using this)
    have sB : ∀ W, Bk W w.heap.size 39 [.int .i64 5, .string (bs name), .string (bs tail), .int .i64 ty, .complex .f64 (fl p) (fl q), .slice ao xs.length c, .int .i64 pos] → W.cell? ⟨w.heap.size, 0, none⟩ = some (.int .i64 5) ∧ W.cell? ⟨w.heap.size, 3, none⟩ = some (.int .i64 ty) := fun W h => ⟨h.cell 0, h.cell 3⟩
    have s1 := sB W1 HE1.out
    have sD := sB W1.drew (HE1.out.up (Below.refl _ W1).drew)
    have sA := fun o => sB (W1.drew.alloc o) ((HE1.out.up (Below.refl _ W1).drew).alloc o)
    have hwd := fun W => word_w (op := 5) (by decide) W
    have hlt := fun W => letter_w HT.out W
    go_wp2_with fail
    go_region_held3 (fun W => W.cell? ⟨w.heap.size, 0, none⟩ = some (.int .i64 5) ∧ W.cell? ⟨w.heap.size, 3, none⟩ = some (.int .i64 ty)) (first | exact s1 | exact sD | exact sA _ | exact s2) (first
      | (go_at_call 31; refine (hwd _).mono ?_; rintro r wq ⟨rfl, hwq⟩; rw [hwq]; clear hwq)
      | (go_at_call 19; refine (hlt _).mono ?_; rintro r wq ⟨rfl, hwq⟩; rw [hwq]; clear hwq)
      | (go_at_call 12; refine hadd.mono ?_; rintro r W2 ⟨rfl, hS, hK⟩; have s2 := sB W2 (hK.bk (HE1.out.up (Below.refl _ W1).drew) (by decide) HC.out))
      | fail)
    all_goals
      have HS2 : Hid (St5 w0 b _ W2) := hS
      have HK2 : Hid (Kp w0.heap.size b w W2) := HK1.out.trans ((Kp.of_up (Below.refl _ W1).drew HS1.out.le).trans hK)
      clear hS hK s1 sD sA s2 hadd
      go_wp2
      go_end0
      refine ⟨rfl, ?_, HK2.out⟩
      have := HS2.out
      rw [shE_mk]
      simpa [fm] using this

set_option maxHeartbeats 4000000 in
theorem bare_call {w0 : World} {A : Nat → Prop} {name tail : List UInt8} {ty p q : Int} {xs : List Ex} {pos : Nat} {es : List Value} (hx : ExW w0 A (.mk 7 name tail ty p q xs pos) es) (hm : BaC 32 w0 (.mk 7 name tail ty p q xs pos) es) : BaC 24 w0 (.mk 7 name tail ty p q xs pos) es := by
  intro b l w hS hlen
  cases hx with
  | mk hl =>
    rename_i ao c
    have hb1 := below_alloc w (.cells #[.int .i64 7, .string (bs name), .string (bs tail), .int .i64 ty, .complex .f64 (fl p) (fl q), .slice ao xs.length c, .int .i64 pos] 39)
    have hS1 := hS.up hb1
    have hE1 := Bk.new w 39 #[.int .i64 7, .string (bs name), .string (bs tail), .int .i64 ty, .complex .f64 (fl p) (fl q), .slice ao xs.length c, .int .i64 pos]
    have hK1 := Kp.of_up (b := b) hb1 hS.le
    have hcb : w.heap.size ≠ b := by have := hS.wr.lt; omega
    clear hS hb1 hl
    generalize hW : w.alloc (.cells #[.int .i64 7, .string (bs name), .string (bs tail), .int .i64 ty, .complex .f64 (fl p) (fl q), .slice ao xs.length c, .int .i64 pos] 39) = W1 at *
    have HS1 : Hid (St5 w0 b l W1) := hS1
    have HE1 : Hid (Bk W1 w.heap.size 39 [.int .i64 7, .string (bs name), .string (bs tail), .int .i64 ty, .complex .f64 (fl p) (fl q), .slice ao xs.length c, .int .i64 pos]) := hE1
    have HK1 : Hid (Kp w0.heap.size b w W1) := hK1
    have HC : Hid (w.heap.size ≠ b) := hcb
    have HB : Hid (_ ≤ 140737488355328) := hlen
    clear hS1 hE1 hK1 hcb hlen
    go_enter Tryd.func24, Tryd.ntmps24
    go_upto_region 1 with fail
    first | rw [hW] | skip
    clear hW
    obtain ⟨c0, c1, c2, c3, c4, c5, _⟩ := Bk.seven (show Bk W1 w.heap.size 39 [_, _, _, _, _, _, _] from HE1.out)
    have HM : Hid (BaC 32 w0 (.mk 7 name tail ty p q xs pos) [.int .i64 7, .string (bs name), .string (bs tail), .int .i64 ty, .complex .f64 (fl p) (fl q), .slice ao xs.length c, .int .i64 pos]) := hm
    clear hm
    go_wp2_with (first
      | refine wpList_loadN rfl 39 (.tmp 3) rfl w.heap.size 0 rfl [.int .i64 7, .string (bs name), .string (bs tail), .int .i64 ty, .complex .f64 (fl p) (fl q), .slice ao xs.length c, .int .i64 pos] _ (Bk.rng7 HE1.out) Tryd.underE Tryd.infoE ?_)
    refine (HM.out b l W1 HS1.out HB.out).mono ?_
    rintro r W2 ⟨rfl, hS, hK⟩
    have HS2 : Hid (St5 w0 b _ W2) := hS
    have HK2 : Hid (Kp w0.heap.size b w W2) := HK1.out.trans hK
    clear hS hK
    go_wp2
    go_end0
    refine ⟨rfl, ?_, HK2.out⟩
    exact HS2.out

set_option maxHeartbeats 4000000 in
theorem bare_un14 {w0 : World} {A : Nat → Prop} {name tail : List UInt8} {ty p q : Int} {xs : List Ex} {pos : Nat} {es : List Value} (hx : ExW w0 A (.mk 14 name tail ty p q xs pos) es) (hm : BaC 33 w0 (.mk 14 name tail ty p q xs pos) es) : BaC 24 w0 (.mk 14 name tail ty p q xs pos) es := by
  intro b l w hS hlen
  cases hx with
  | mk hl =>
    rename_i ao c
    have hb1 := below_alloc w (.cells #[.int .i64 14, .string (bs name), .string (bs tail), .int .i64 ty, .complex .f64 (fl p) (fl q), .slice ao xs.length c, .int .i64 pos] 39)
    have hS1 := hS.up hb1
    have hE1 := Bk.new w 39 #[.int .i64 14, .string (bs name), .string (bs tail), .int .i64 ty, .complex .f64 (fl p) (fl q), .slice ao xs.length c, .int .i64 pos]
    have hK1 := Kp.of_up (b := b) hb1 hS.le
    have hcb : w.heap.size ≠ b := by have := hS.wr.lt; omega
    clear hS hb1 hl
    generalize hW : w.alloc (.cells #[.int .i64 14, .string (bs name), .string (bs tail), .int .i64 ty, .complex .f64 (fl p) (fl q), .slice ao xs.length c, .int .i64 pos] 39) = W1 at *
    have HS1 : Hid (St5 w0 b l W1) := hS1
    have HE1 : Hid (Bk W1 w.heap.size 39 [.int .i64 14, .string (bs name), .string (bs tail), .int .i64 ty, .complex .f64 (fl p) (fl q), .slice ao xs.length c, .int .i64 pos]) := hE1
    have HK1 : Hid (Kp w0.heap.size b w W1) := hK1
    have HC : Hid (w.heap.size ≠ b) := hcb
    have HB : Hid (_ ≤ 140737488355328) := hlen
    clear hS1 hE1 hK1 hcb hlen
    go_enter Tryd.func24, Tryd.ntmps24
    go_upto_region 1 with fail
    first | rw [hW] | skip
    clear hW
    obtain ⟨c0, c1, c2, c3, c4, c5, _⟩ := Bk.seven (show Bk W1 w.heap.size 39 [_, _, _, _, _, _, _] from HE1.out)
    have HM : Hid (BaC 33 w0 (.mk 14 name tail ty p q xs pos) [.int .i64 14, .string (bs name), .string (bs tail), .int .i64 ty, .complex .f64 (fl p) (fl q), .slice ao xs.length c, .int .i64 pos]) := hm
    clear hm
    go_wp2_with (first
      | refine wpList_loadN rfl 39 (.tmp 3) rfl w.heap.size 0 rfl [.int .i64 14, .string (bs name), .string (bs tail), .int .i64 ty, .complex .f64 (fl p) (fl q), .slice ao xs.length c, .int .i64 pos] _ (Bk.rng7 HE1.out) Tryd.underE Tryd.infoE ?_)
    refine (HM.out b l W1 HS1.out HB.out).mono ?_
    rintro r W2 ⟨rfl, hS, hK⟩
    have HS2 : Hid (St5 w0 b _ W2) := hS
    have HK2 : Hid (Kp w0.heap.size b w W2) := HK1.out.trans hK
    clear hS hK
    go_wp2
    go_end0
    refine ⟨rfl, ?_, HK2.out⟩
    exact HS2.out

set_option maxHeartbeats 4000000 in
theorem bare_un15 {w0 : World} {A : Nat → Prop} {name tail : List UInt8} {ty p q : Int} {xs : List Ex} {pos : Nat} {es : List Value} (hx : ExW w0 A (.mk 15 name tail ty p q xs pos) es) (hm : BaC 33 w0 (.mk 15 name tail ty p q xs pos) es) : BaC 24 w0 (.mk 15 name tail ty p q xs pos) es := by
  intro b l w hS hlen
  cases hx with
  | mk hl =>
    rename_i ao c
    have hb1 := below_alloc w (.cells #[.int .i64 15, .string (bs name), .string (bs tail), .int .i64 ty, .complex .f64 (fl p) (fl q), .slice ao xs.length c, .int .i64 pos] 39)
    have hS1 := hS.up hb1
    have hE1 := Bk.new w 39 #[.int .i64 15, .string (bs name), .string (bs tail), .int .i64 ty, .complex .f64 (fl p) (fl q), .slice ao xs.length c, .int .i64 pos]
    have hK1 := Kp.of_up (b := b) hb1 hS.le
    have hcb : w.heap.size ≠ b := by have := hS.wr.lt; omega
    clear hS hb1 hl
    generalize hW : w.alloc (.cells #[.int .i64 15, .string (bs name), .string (bs tail), .int .i64 ty, .complex .f64 (fl p) (fl q), .slice ao xs.length c, .int .i64 pos] 39) = W1 at *
    have HS1 : Hid (St5 w0 b l W1) := hS1
    have HE1 : Hid (Bk W1 w.heap.size 39 [.int .i64 15, .string (bs name), .string (bs tail), .int .i64 ty, .complex .f64 (fl p) (fl q), .slice ao xs.length c, .int .i64 pos]) := hE1
    have HK1 : Hid (Kp w0.heap.size b w W1) := hK1
    have HC : Hid (w.heap.size ≠ b) := hcb
    have HB : Hid (_ ≤ 140737488355328) := hlen
    clear hS1 hE1 hK1 hcb hlen
    go_enter Tryd.func24, Tryd.ntmps24
    go_upto_region 1 with fail
    first | rw [hW] | skip
    clear hW
    obtain ⟨c0, c1, c2, c3, c4, c5, _⟩ := Bk.seven (show Bk W1 w.heap.size 39 [_, _, _, _, _, _, _] from HE1.out)
    have HM : Hid (BaC 33 w0 (.mk 15 name tail ty p q xs pos) [.int .i64 15, .string (bs name), .string (bs tail), .int .i64 ty, .complex .f64 (fl p) (fl q), .slice ao xs.length c, .int .i64 pos]) := hm
    clear hm
    go_wp2_with (first
      | refine wpList_loadN rfl 39 (.tmp 3) rfl w.heap.size 0 rfl [.int .i64 15, .string (bs name), .string (bs tail), .int .i64 ty, .complex .f64 (fl p) (fl q), .slice ao xs.length c, .int .i64 pos] _ (Bk.rng7 HE1.out) Tryd.underE Tryd.infoE ?_)
    refine (HM.out b l W1 HS1.out HB.out).mono ?_
    rintro r W2 ⟨rfl, hS, hK⟩
    have HS2 : Hid (St5 w0 b _ W2) := hS
    have HK2 : Hid (Kp w0.heap.size b w W2) := HK1.out.trans hK
    clear hS hK
    go_wp2
    go_end0
    refine ⟨rfl, ?_, HK2.out⟩
    exact HS2.out

set_option maxHeartbeats 4000000 in
theorem bare_un16 {w0 : World} {A : Nat → Prop} {name tail : List UInt8} {ty p q : Int} {xs : List Ex} {pos : Nat} {es : List Value} (hx : ExW w0 A (.mk 16 name tail ty p q xs pos) es) (hm : BaC 33 w0 (.mk 16 name tail ty p q xs pos) es) : BaC 24 w0 (.mk 16 name tail ty p q xs pos) es := by
  intro b l w hS hlen
  cases hx with
  | mk hl =>
    rename_i ao c
    have hb1 := below_alloc w (.cells #[.int .i64 16, .string (bs name), .string (bs tail), .int .i64 ty, .complex .f64 (fl p) (fl q), .slice ao xs.length c, .int .i64 pos] 39)
    have hS1 := hS.up hb1
    have hE1 := Bk.new w 39 #[.int .i64 16, .string (bs name), .string (bs tail), .int .i64 ty, .complex .f64 (fl p) (fl q), .slice ao xs.length c, .int .i64 pos]
    have hK1 := Kp.of_up (b := b) hb1 hS.le
    have hcb : w.heap.size ≠ b := by have := hS.wr.lt; omega
    clear hS hb1 hl
    generalize hW : w.alloc (.cells #[.int .i64 16, .string (bs name), .string (bs tail), .int .i64 ty, .complex .f64 (fl p) (fl q), .slice ao xs.length c, .int .i64 pos] 39) = W1 at *
    have HS1 : Hid (St5 w0 b l W1) := hS1
    have HE1 : Hid (Bk W1 w.heap.size 39 [.int .i64 16, .string (bs name), .string (bs tail), .int .i64 ty, .complex .f64 (fl p) (fl q), .slice ao xs.length c, .int .i64 pos]) := hE1
    have HK1 : Hid (Kp w0.heap.size b w W1) := hK1
    have HC : Hid (w.heap.size ≠ b) := hcb
    have HB : Hid (_ ≤ 140737488355328) := hlen
    clear hS1 hE1 hK1 hcb hlen
    go_enter Tryd.func24, Tryd.ntmps24
    go_upto_region 1 with fail
    first | rw [hW] | skip
    clear hW
    obtain ⟨c0, c1, c2, c3, c4, c5, _⟩ := Bk.seven (show Bk W1 w.heap.size 39 [_, _, _, _, _, _, _] from HE1.out)
    have HM : Hid (BaC 33 w0 (.mk 16 name tail ty p q xs pos) [.int .i64 16, .string (bs name), .string (bs tail), .int .i64 ty, .complex .f64 (fl p) (fl q), .slice ao xs.length c, .int .i64 pos]) := hm
    clear hm
    go_wp2_with (first
      | refine wpList_loadN rfl 39 (.tmp 3) rfl w.heap.size 0 rfl [.int .i64 16, .string (bs name), .string (bs tail), .int .i64 ty, .complex .f64 (fl p) (fl q), .slice ao xs.length c, .int .i64 pos] _ (Bk.rng7 HE1.out) Tryd.underE Tryd.infoE ?_)
    refine (HM.out b l W1 HS1.out HB.out).mono ?_
    rintro r W2 ⟨rfl, hS, hK⟩
    have HS2 : Hid (St5 w0 b _ W2) := hS
    have HK2 : Hid (Kp w0.heap.size b w W2) := HK1.out.trans hK
    clear hS hK
    go_wp2
    go_end0
    refine ⟨rfl, ?_, HK2.out⟩
    exact HS2.out

set_option maxHeartbeats 4000000 in
theorem bare_un17 {w0 : World} {A : Nat → Prop} {name tail : List UInt8} {ty p q : Int} {xs : List Ex} {pos : Nat} {es : List Value} (hx : ExW w0 A (.mk 17 name tail ty p q xs pos) es) (hm : BaC 33 w0 (.mk 17 name tail ty p q xs pos) es) : BaC 24 w0 (.mk 17 name tail ty p q xs pos) es := by
  intro b l w hS hlen
  cases hx with
  | mk hl =>
    rename_i ao c
    have hb1 := below_alloc w (.cells #[.int .i64 17, .string (bs name), .string (bs tail), .int .i64 ty, .complex .f64 (fl p) (fl q), .slice ao xs.length c, .int .i64 pos] 39)
    have hS1 := hS.up hb1
    have hE1 := Bk.new w 39 #[.int .i64 17, .string (bs name), .string (bs tail), .int .i64 ty, .complex .f64 (fl p) (fl q), .slice ao xs.length c, .int .i64 pos]
    have hK1 := Kp.of_up (b := b) hb1 hS.le
    have hcb : w.heap.size ≠ b := by have := hS.wr.lt; omega
    clear hS hb1 hl
    generalize hW : w.alloc (.cells #[.int .i64 17, .string (bs name), .string (bs tail), .int .i64 ty, .complex .f64 (fl p) (fl q), .slice ao xs.length c, .int .i64 pos] 39) = W1 at *
    have HS1 : Hid (St5 w0 b l W1) := hS1
    have HE1 : Hid (Bk W1 w.heap.size 39 [.int .i64 17, .string (bs name), .string (bs tail), .int .i64 ty, .complex .f64 (fl p) (fl q), .slice ao xs.length c, .int .i64 pos]) := hE1
    have HK1 : Hid (Kp w0.heap.size b w W1) := hK1
    have HC : Hid (w.heap.size ≠ b) := hcb
    have HB : Hid (_ ≤ 140737488355328) := hlen
    clear hS1 hE1 hK1 hcb hlen
    go_enter Tryd.func24, Tryd.ntmps24
    go_upto_region 1 with fail
    first | rw [hW] | skip
    clear hW
    obtain ⟨c0, c1, c2, c3, c4, c5, _⟩ := Bk.seven (show Bk W1 w.heap.size 39 [_, _, _, _, _, _, _] from HE1.out)
    have HM : Hid (BaC 33 w0 (.mk 17 name tail ty p q xs pos) [.int .i64 17, .string (bs name), .string (bs tail), .int .i64 ty, .complex .f64 (fl p) (fl q), .slice ao xs.length c, .int .i64 pos]) := hm
    clear hm
    go_wp2_with (first
      | refine wpList_loadN rfl 39 (.tmp 3) rfl w.heap.size 0 rfl [.int .i64 17, .string (bs name), .string (bs tail), .int .i64 ty, .complex .f64 (fl p) (fl q), .slice ao xs.length c, .int .i64 pos] _ (Bk.rng7 HE1.out) Tryd.underE Tryd.infoE ?_)
    refine (HM.out b l W1 HS1.out HB.out).mono ?_
    rintro r W2 ⟨rfl, hS, hK⟩
    have HS2 : Hid (St5 w0 b _ W2) := hS
    have HK2 : Hid (Kp w0.heap.size b w W2) := HK1.out.trans hK
    clear hS hK
    go_wp2
    go_end0
    refine ⟨rfl, ?_, HK2.out⟩
    exact HS2.out

set_option maxHeartbeats 4000000 in
theorem bare_op18 {w0 : World} {A : Nat → Prop} {name tail : List UInt8} {ty p q : Int} {xs : List Ex} {pos : Nat} {es : List Value} (hx : ExW w0 A (.mk 18 name tail ty p q xs pos) es) (hm : BaC 34 w0 (.mk 18 name tail ty p q xs pos) es) : BaC 24 w0 (.mk 18 name tail ty p q xs pos) es := by
  intro b l w hS hlen
  cases hx with
  | mk hl =>
    rename_i ao c
    have hb1 := below_alloc w (.cells #[.int .i64 18, .string (bs name), .string (bs tail), .int .i64 ty, .complex .f64 (fl p) (fl q), .slice ao xs.length c, .int .i64 pos] 39)
    have hS1 := hS.up hb1
    have hE1 := Bk.new w 39 #[.int .i64 18, .string (bs name), .string (bs tail), .int .i64 ty, .complex .f64 (fl p) (fl q), .slice ao xs.length c, .int .i64 pos]
    have hK1 := Kp.of_up (b := b) hb1 hS.le
    have hcb : w.heap.size ≠ b := by have := hS.wr.lt; omega
    clear hS hb1 hl
    generalize hW : w.alloc (.cells #[.int .i64 18, .string (bs name), .string (bs tail), .int .i64 ty, .complex .f64 (fl p) (fl q), .slice ao xs.length c, .int .i64 pos] 39) = W1 at *
    have HS1 : Hid (St5 w0 b l W1) := hS1
    have HE1 : Hid (Bk W1 w.heap.size 39 [.int .i64 18, .string (bs name), .string (bs tail), .int .i64 ty, .complex .f64 (fl p) (fl q), .slice ao xs.length c, .int .i64 pos]) := hE1
    have HK1 : Hid (Kp w0.heap.size b w W1) := hK1
    have HC : Hid (w.heap.size ≠ b) := hcb
    have HB : Hid (_ ≤ 140737488355328) := hlen
    clear hS1 hE1 hK1 hcb hlen
    go_enter Tryd.func24, Tryd.ntmps24
    go_upto_region 1 with fail
    first | rw [hW] | skip
    clear hW
    obtain ⟨c0, c1, c2, c3, c4, c5, _⟩ := Bk.seven (show Bk W1 w.heap.size 39 [_, _, _, _, _, _, _] from HE1.out)
    have HM : Hid (BaC 34 w0 (.mk 18 name tail ty p q xs pos) [.int .i64 18, .string (bs name), .string (bs tail), .int .i64 ty, .complex .f64 (fl p) (fl q), .slice ao xs.length c, .int .i64 pos]) := hm
    clear hm
    go_wp2_with (first
      | refine wpList_loadN rfl 39 (.tmp 3) rfl w.heap.size 0 rfl [.int .i64 18, .string (bs name), .string (bs tail), .int .i64 ty, .complex .f64 (fl p) (fl q), .slice ao xs.length c, .int .i64 pos] _ (Bk.rng7 HE1.out) Tryd.underE Tryd.infoE ?_)
    refine (HM.out b l W1 HS1.out HB.out).mono ?_
    rintro r W2 ⟨rfl, hS, hK⟩
    have HS2 : Hid (St5 w0 b _ W2) := hS
    have HK2 : Hid (Kp w0.heap.size b w W2) := HK1.out.trans hK
    clear hS hK
    go_wp2
    go_end0
    refine ⟨rfl, ?_, HK2.out⟩
    exact HS2.out

set_option maxHeartbeats 4000000 in
theorem bare_op12 {w0 : World} {A : Nat → Prop} {name tail : List UInt8} {ty p q : Int} {xs : List Ex} {pos : Nat} {es : List Value} (hx : ExW w0 A (.mk 12 name tail ty p q xs pos) es) (hm : BaC 34 w0 (.mk 12 name tail ty p q xs pos) es) : BaC 24 w0 (.mk 12 name tail ty p q xs pos) es := by
  intro b l w hS hlen
  cases hx with
  | mk hl =>
    rename_i ao c
    have hb1 := below_alloc w (.cells #[.int .i64 12, .string (bs name), .string (bs tail), .int .i64 ty, .complex .f64 (fl p) (fl q), .slice ao xs.length c, .int .i64 pos] 39)
    have hS1 := hS.up hb1
    have hE1 := Bk.new w 39 #[.int .i64 12, .string (bs name), .string (bs tail), .int .i64 ty, .complex .f64 (fl p) (fl q), .slice ao xs.length c, .int .i64 pos]
    have hK1 := Kp.of_up (b := b) hb1 hS.le
    have hcb : w.heap.size ≠ b := by have := hS.wr.lt; omega
    clear hS hb1 hl
    generalize hW : w.alloc (.cells #[.int .i64 12, .string (bs name), .string (bs tail), .int .i64 ty, .complex .f64 (fl p) (fl q), .slice ao xs.length c, .int .i64 pos] 39) = W1 at *
    have HS1 : Hid (St5 w0 b l W1) := hS1
    have HE1 : Hid (Bk W1 w.heap.size 39 [.int .i64 12, .string (bs name), .string (bs tail), .int .i64 ty, .complex .f64 (fl p) (fl q), .slice ao xs.length c, .int .i64 pos]) := hE1
    have HK1 : Hid (Kp w0.heap.size b w W1) := hK1
    have HC : Hid (w.heap.size ≠ b) := hcb
    have HB : Hid (_ ≤ 140737488355328) := hlen
    clear hS1 hE1 hK1 hcb hlen
    go_enter Tryd.func24, Tryd.ntmps24
    go_upto_region 1 with fail
    first | rw [hW] | skip
    clear hW
    obtain ⟨c0, c1, c2, c3, c4, c5, _⟩ := Bk.seven (show Bk W1 w.heap.size 39 [_, _, _, _, _, _, _] from HE1.out)
    have HM : Hid (BaC 34 w0 (.mk 12 name tail ty p q xs pos) [.int .i64 12, .string (bs name), .string (bs tail), .int .i64 ty, .complex .f64 (fl p) (fl q), .slice ao xs.length c, .int .i64 pos]) := hm
    clear hm
    go_wp2_with (first
      | refine wpList_loadN rfl 39 (.tmp 3) rfl w.heap.size 0 rfl [.int .i64 12, .string (bs name), .string (bs tail), .int .i64 ty, .complex .f64 (fl p) (fl q), .slice ao xs.length c, .int .i64 pos] _ (Bk.rng7 HE1.out) Tryd.underE Tryd.infoE ?_)
    refine (HM.out b l W1 HS1.out HB.out).mono ?_
    rintro r W2 ⟨rfl, hS, hK⟩
    have HS2 : Hid (St5 w0 b _ W2) := hS
    have HK2 : Hid (Kp w0.heap.size b w W2) := HK1.out.trans hK
    clear hS hK
    go_wp2
    go_end0
    refine ⟨rfl, ?_, HK2.out⟩
    exact HS2.out

set_option maxHeartbeats 4000000 in
theorem bare_op13 {w0 : World} {A : Nat → Prop} {name tail : List UInt8} {ty p q : Int} {xs : List Ex} {pos : Nat} {es : List Value} (hx : ExW w0 A (.mk 13 name tail ty p q xs pos) es) (hm : BaC 34 w0 (.mk 13 name tail ty p q xs pos) es) : BaC 24 w0 (.mk 13 name tail ty p q xs pos) es := by
  intro b l w hS hlen
  cases hx with
  | mk hl =>
    rename_i ao c
    have hb1 := below_alloc w (.cells #[.int .i64 13, .string (bs name), .string (bs tail), .int .i64 ty, .complex .f64 (fl p) (fl q), .slice ao xs.length c, .int .i64 pos] 39)
    have hS1 := hS.up hb1
    have hE1 := Bk.new w 39 #[.int .i64 13, .string (bs name), .string (bs tail), .int .i64 ty, .complex .f64 (fl p) (fl q), .slice ao xs.length c, .int .i64 pos]
    have hK1 := Kp.of_up (b := b) hb1 hS.le
    have hcb : w.heap.size ≠ b := by have := hS.wr.lt; omega
    clear hS hb1 hl
    generalize hW : w.alloc (.cells #[.int .i64 13, .string (bs name), .string (bs tail), .int .i64 ty, .complex .f64 (fl p) (fl q), .slice ao xs.length c, .int .i64 pos] 39) = W1 at *
    have HS1 : Hid (St5 w0 b l W1) := hS1
    have HE1 : Hid (Bk W1 w.heap.size 39 [.int .i64 13, .string (bs name), .string (bs tail), .int .i64 ty, .complex .f64 (fl p) (fl q), .slice ao xs.length c, .int .i64 pos]) := hE1
    have HK1 : Hid (Kp w0.heap.size b w W1) := hK1
    have HC : Hid (w.heap.size ≠ b) := hcb
    have HB : Hid (_ ≤ 140737488355328) := hlen
    clear hS1 hE1 hK1 hcb hlen
    go_enter Tryd.func24, Tryd.ntmps24
    go_upto_region 1 with fail
    first | rw [hW] | skip
    clear hW
    obtain ⟨c0, c1, c2, c3, c4, c5, _⟩ := Bk.seven (show Bk W1 w.heap.size 39 [_, _, _, _, _, _, _] from HE1.out)
    have HM : Hid (BaC 34 w0 (.mk 13 name tail ty p q xs pos) [.int .i64 13, .string (bs name), .string (bs tail), .int .i64 ty, .complex .f64 (fl p) (fl q), .slice ao xs.length c, .int .i64 pos]) := hm
    clear hm
    go_wp2_with (first
      | refine wpList_loadN rfl 39 (.tmp 3) rfl w.heap.size 0 rfl [.int .i64 13, .string (bs name), .string (bs tail), .int .i64 ty, .complex .f64 (fl p) (fl q), .slice ao xs.length c, .int .i64 pos] _ (Bk.rng7 HE1.out) Tryd.underE Tryd.infoE ?_)
    refine (HM.out b l W1 HS1.out HB.out).mono ?_
    rintro r W2 ⟨rfl, hS, hK⟩
    have HS2 : Hid (St5 w0 b _ W2) := hS
    have HK2 : Hid (Kp w0.heap.size b w W2) := HK1.out.trans hK
    clear hS hK
    go_wp2
    go_end0
    refine ⟨rfl, ?_, HK2.out⟩
    exact HS2.out

set_option maxHeartbeats 4000000 in
theorem bare_op8 {w0 : World} {A : Nat → Prop} {name tail : List UInt8} {ty p q : Int} {xs : List Ex} {pos : Nat} {es : List Value} (hx : ExW w0 A (.mk 8 name tail ty p q xs pos) es) (hm : BaC 34 w0 (.mk 8 name tail ty p q xs pos) es) : BaC 24 w0 (.mk 8 name tail ty p q xs pos) es := by
  intro b l w hS hlen
  cases hx with
  | mk hl =>
    rename_i ao c
    have hb1 := below_alloc w (.cells #[.int .i64 8, .string (bs name), .string (bs tail), .int .i64 ty, .complex .f64 (fl p) (fl q), .slice ao xs.length c, .int .i64 pos] 39)
    have hS1 := hS.up hb1
    have hE1 := Bk.new w 39 #[.int .i64 8, .string (bs name), .string (bs tail), .int .i64 ty, .complex .f64 (fl p) (fl q), .slice ao xs.length c, .int .i64 pos]
    have hK1 := Kp.of_up (b := b) hb1 hS.le
    have hcb : w.heap.size ≠ b := by have := hS.wr.lt; omega
    clear hS hb1 hl
    generalize hW : w.alloc (.cells #[.int .i64 8, .string (bs name), .string (bs tail), .int .i64 ty, .complex .f64 (fl p) (fl q), .slice ao xs.length c, .int .i64 pos] 39) = W1 at *
    have HS1 : Hid (St5 w0 b l W1) := hS1
    have HE1 : Hid (Bk W1 w.heap.size 39 [.int .i64 8, .string (bs name), .string (bs tail), .int .i64 ty, .complex .f64 (fl p) (fl q), .slice ao xs.length c, .int .i64 pos]) := hE1
    have HK1 : Hid (Kp w0.heap.size b w W1) := hK1
    have HC : Hid (w.heap.size ≠ b) := hcb
    have HB : Hid (_ ≤ 140737488355328) := hlen
    clear hS1 hE1 hK1 hcb hlen
    go_enter Tryd.func24, Tryd.ntmps24
    go_upto_region 1 with fail
    first | rw [hW] | skip
    clear hW
    obtain ⟨c0, c1, c2, c3, c4, c5, _⟩ := Bk.seven (show Bk W1 w.heap.size 39 [_, _, _, _, _, _, _] from HE1.out)
    have HM : Hid (BaC 34 w0 (.mk 8 name tail ty p q xs pos) [.int .i64 8, .string (bs name), .string (bs tail), .int .i64 ty, .complex .f64 (fl p) (fl q), .slice ao xs.length c, .int .i64 pos]) := hm
    clear hm
    go_wp2_with (first
      | refine wpList_loadN rfl 39 (.tmp 3) rfl w.heap.size 0 rfl [.int .i64 8, .string (bs name), .string (bs tail), .int .i64 ty, .complex .f64 (fl p) (fl q), .slice ao xs.length c, .int .i64 pos] _ (Bk.rng7 HE1.out) Tryd.underE Tryd.infoE ?_)
    refine (HM.out b l W1 HS1.out HB.out).mono ?_
    rintro r W2 ⟨rfl, hS, hK⟩
    have HS2 : Hid (St5 w0 b _ W2) := hS
    have HK2 : Hid (Kp w0.heap.size b w W2) := HK1.out.trans hK
    clear hS hK
    go_wp2
    go_end0
    refine ⟨rfl, ?_, HK2.out⟩
    exact HS2.out

set_option maxHeartbeats 4000000 in
theorem bare_op9 {w0 : World} {A : Nat → Prop} {name tail : List UInt8} {ty p q : Int} {xs : List Ex} {pos : Nat} {es : List Value} (hx : ExW w0 A (.mk 9 name tail ty p q xs pos) es) (hm : BaC 34 w0 (.mk 9 name tail ty p q xs pos) es) : BaC 24 w0 (.mk 9 name tail ty p q xs pos) es := by
  intro b l w hS hlen
  cases hx with
  | mk hl =>
    rename_i ao c
    have hb1 := below_alloc w (.cells #[.int .i64 9, .string (bs name), .string (bs tail), .int .i64 ty, .complex .f64 (fl p) (fl q), .slice ao xs.length c, .int .i64 pos] 39)
    have hS1 := hS.up hb1
    have hE1 := Bk.new w 39 #[.int .i64 9, .string (bs name), .string (bs tail), .int .i64 ty, .complex .f64 (fl p) (fl q), .slice ao xs.length c, .int .i64 pos]
    have hK1 := Kp.of_up (b := b) hb1 hS.le
    have hcb : w.heap.size ≠ b := by have := hS.wr.lt; omega
    clear hS hb1 hl
    generalize hW : w.alloc (.cells #[.int .i64 9, .string (bs name), .string (bs tail), .int .i64 ty, .complex .f64 (fl p) (fl q), .slice ao xs.length c, .int .i64 pos] 39) = W1 at *
    have HS1 : Hid (St5 w0 b l W1) := hS1
    have HE1 : Hid (Bk W1 w.heap.size 39 [.int .i64 9, .string (bs name), .string (bs tail), .int .i64 ty, .complex .f64 (fl p) (fl q), .slice ao xs.length c, .int .i64 pos]) := hE1
    have HK1 : Hid (Kp w0.heap.size b w W1) := hK1
    have HC : Hid (w.heap.size ≠ b) := hcb
    have HB : Hid (_ ≤ 140737488355328) := hlen
    clear hS1 hE1 hK1 hcb hlen
    go_enter Tryd.func24, Tryd.ntmps24
    go_upto_region 1 with fail
    first | rw [hW] | skip
    clear hW
    obtain ⟨c0, c1, c2, c3, c4, c5, _⟩ := Bk.seven (show Bk W1 w.heap.size 39 [_, _, _, _, _, _, _] from HE1.out)
    have HM : Hid (BaC 34 w0 (.mk 9 name tail ty p q xs pos) [.int .i64 9, .string (bs name), .string (bs tail), .int .i64 ty, .complex .f64 (fl p) (fl q), .slice ao xs.length c, .int .i64 pos]) := hm
    clear hm
    go_wp2_with (first
      | refine wpList_loadN rfl 39 (.tmp 3) rfl w.heap.size 0 rfl [.int .i64 9, .string (bs name), .string (bs tail), .int .i64 ty, .complex .f64 (fl p) (fl q), .slice ao xs.length c, .int .i64 pos] _ (Bk.rng7 HE1.out) Tryd.underE Tryd.infoE ?_)
    refine (HM.out b l W1 HS1.out HB.out).mono ?_
    rintro r W2 ⟨rfl, hS, hK⟩
    have HS2 : Hid (St5 w0 b _ W2) := hS
    have HK2 : Hid (Kp w0.heap.size b w W2) := HK1.out.trans hK
    clear hS hK
    go_wp2
    go_end0
    refine ⟨rfl, ?_, HK2.out⟩
    exact HS2.out

set_option maxHeartbeats 4000000 in
theorem bare_op10 {w0 : World} {A : Nat → Prop} {name tail : List UInt8} {ty p q : Int} {xs : List Ex} {pos : Nat} {es : List Value} (hx : ExW w0 A (.mk 10 name tail ty p q xs pos) es) (hm : BaC 34 w0 (.mk 10 name tail ty p q xs pos) es) : BaC 24 w0 (.mk 10 name tail ty p q xs pos) es := by
  intro b l w hS hlen
  cases hx with
  | mk hl =>
    rename_i ao c
    have hb1 := below_alloc w (.cells #[.int .i64 10, .string (bs name), .string (bs tail), .int .i64 ty, .complex .f64 (fl p) (fl q), .slice ao xs.length c, .int .i64 pos] 39)
    have hS1 := hS.up hb1
    have hE1 := Bk.new w 39 #[.int .i64 10, .string (bs name), .string (bs tail), .int .i64 ty, .complex .f64 (fl p) (fl q), .slice ao xs.length c, .int .i64 pos]
    have hK1 := Kp.of_up (b := b) hb1 hS.le
    have hcb : w.heap.size ≠ b := by have := hS.wr.lt; omega
    clear hS hb1 hl
    generalize hW : w.alloc (.cells #[.int .i64 10, .string (bs name), .string (bs tail), .int .i64 ty, .complex .f64 (fl p) (fl q), .slice ao xs.length c, .int .i64 pos] 39) = W1 at *
    have HS1 : Hid (St5 w0 b l W1) := hS1
    have HE1 : Hid (Bk W1 w.heap.size 39 [.int .i64 10, .string (bs name), .string (bs tail), .int .i64 ty, .complex .f64 (fl p) (fl q), .slice ao xs.length c, .int .i64 pos]) := hE1
    have HK1 : Hid (Kp w0.heap.size b w W1) := hK1
    have HC : Hid (w.heap.size ≠ b) := hcb
    have HB : Hid (_ ≤ 140737488355328) := hlen
    clear hS1 hE1 hK1 hcb hlen
    go_enter Tryd.func24, Tryd.ntmps24
    go_upto_region 1 with fail
    first | rw [hW] | skip
    clear hW
    obtain ⟨c0, c1, c2, c3, c4, c5, _⟩ := Bk.seven (show Bk W1 w.heap.size 39 [_, _, _, _, _, _, _] from HE1.out)
    have HM : Hid (BaC 34 w0 (.mk 10 name tail ty p q xs pos) [.int .i64 10, .string (bs name), .string (bs tail), .int .i64 ty, .complex .f64 (fl p) (fl q), .slice ao xs.length c, .int .i64 pos]) := hm
    clear hm
    go_wp2_with (first
      | refine wpList_loadN rfl 39 (.tmp 3) rfl w.heap.size 0 rfl [.int .i64 10, .string (bs name), .string (bs tail), .int .i64 ty, .complex .f64 (fl p) (fl q), .slice ao xs.length c, .int .i64 pos] _ (Bk.rng7 HE1.out) Tryd.underE Tryd.infoE ?_)
    refine (HM.out b l W1 HS1.out HB.out).mono ?_
    rintro r W2 ⟨rfl, hS, hK⟩
    have HS2 : Hid (St5 w0 b _ W2) := hS
    have HK2 : Hid (Kp w0.heap.size b w W2) := HK1.out.trans hK
    clear hS hK
    go_wp2
    go_end0
    refine ⟨rfl, ?_, HK2.out⟩
    exact HS2.out

set_option maxHeartbeats 4000000 in
theorem bare_op11 {w0 : World} {A : Nat → Prop} {name tail : List UInt8} {ty p q : Int} {xs : List Ex} {pos : Nat} {es : List Value} (hx : ExW w0 A (.mk 11 name tail ty p q xs pos) es) (hm : BaC 34 w0 (.mk 11 name tail ty p q xs pos) es) : BaC 24 w0 (.mk 11 name tail ty p q xs pos) es := by
  intro b l w hS hlen
  cases hx with
  | mk hl =>
    rename_i ao c
    have hb1 := below_alloc w (.cells #[.int .i64 11, .string (bs name), .string (bs tail), .int .i64 ty, .complex .f64 (fl p) (fl q), .slice ao xs.length c, .int .i64 pos] 39)
    have hS1 := hS.up hb1
    have hE1 := Bk.new w 39 #[.int .i64 11, .string (bs name), .string (bs tail), .int .i64 ty, .complex .f64 (fl p) (fl q), .slice ao xs.length c, .int .i64 pos]
    have hK1 := Kp.of_up (b := b) hb1 hS.le
    have hcb : w.heap.size ≠ b := by have := hS.wr.lt; omega
    clear hS hb1 hl
    generalize hW : w.alloc (.cells #[.int .i64 11, .string (bs name), .string (bs tail), .int .i64 ty, .complex .f64 (fl p) (fl q), .slice ao xs.length c, .int .i64 pos] 39) = W1 at *
    have HS1 : Hid (St5 w0 b l W1) := hS1
    have HE1 : Hid (Bk W1 w.heap.size 39 [.int .i64 11, .string (bs name), .string (bs tail), .int .i64 ty, .complex .f64 (fl p) (fl q), .slice ao xs.length c, .int .i64 pos]) := hE1
    have HK1 : Hid (Kp w0.heap.size b w W1) := hK1
    have HC : Hid (w.heap.size ≠ b) := hcb
    have HB : Hid (_ ≤ 140737488355328) := hlen
    clear hS1 hE1 hK1 hcb hlen
    go_enter Tryd.func24, Tryd.ntmps24
    go_upto_region 1 with fail
    first | rw [hW] | skip
    clear hW
    obtain ⟨c0, c1, c2, c3, c4, c5, _⟩ := Bk.seven (show Bk W1 w.heap.size 39 [_, _, _, _, _, _, _] from HE1.out)
    have HM : Hid (BaC 34 w0 (.mk 11 name tail ty p q xs pos) [.int .i64 11, .string (bs name), .string (bs tail), .int .i64 ty, .complex .f64 (fl p) (fl q), .slice ao xs.length c, .int .i64 pos]) := hm
    clear hm
    go_wp2_with (first
      | refine wpList_loadN rfl 39 (.tmp 3) rfl w.heap.size 0 rfl [.int .i64 11, .string (bs name), .string (bs tail), .int .i64 ty, .complex .f64 (fl p) (fl q), .slice ao xs.length c, .int .i64 pos] _ (Bk.rng7 HE1.out) Tryd.underE Tryd.infoE ?_)
    refine (HM.out b l W1 HS1.out HB.out).mono ?_
    rintro r W2 ⟨rfl, hS, hK⟩
    have HS2 : Hid (St5 w0 b _ W2) := hS
    have HK2 : Hid (Kp w0.heap.size b w W2) := HK1.out.trans hK
    clear hS hK
    go_wp2
    go_end0
    refine ⟨rfl, ?_, HK2.out⟩
    exact HS2.out

set_option maxHeartbeats 4000000 in
theorem bare_if {w0 : World} {A : Nat → Prop} {name tail : List UInt8} {ty p q : Int} {xs : List Ex} {pos : Nat} {es : List Value} (hx : ExW w0 A (.mk 19 name tail ty p q xs pos) es) (hm : BaC 35 w0 (.mk 19 name tail ty p q xs pos) es) : BaC 24 w0 (.mk 19 name tail ty p q xs pos) es := by
  intro b l w hS hlen
  cases hx with
  | mk hl =>
    rename_i ao c
    have hb1 := below_alloc w (.cells #[.int .i64 19, .string (bs name), .string (bs tail), .int .i64 ty, .complex .f64 (fl p) (fl q), .slice ao xs.length c, .int .i64 pos] 39)
    have hS1 := hS.up hb1
    have hE1 := Bk.new w 39 #[.int .i64 19, .string (bs name), .string (bs tail), .int .i64 ty, .complex .f64 (fl p) (fl q), .slice ao xs.length c, .int .i64 pos]
    have hK1 := Kp.of_up (b := b) hb1 hS.le
    have hcb : w.heap.size ≠ b := by have := hS.wr.lt; omega
    clear hS hb1 hl
    generalize hW : w.alloc (.cells #[.int .i64 19, .string (bs name), .string (bs tail), .int .i64 ty, .complex .f64 (fl p) (fl q), .slice ao xs.length c, .int .i64 pos] 39) = W1 at *
    have HS1 : Hid (St5 w0 b l W1) := hS1
    have HE1 : Hid (Bk W1 w.heap.size 39 [.int .i64 19, .string (bs name), .string (bs tail), .int .i64 ty, .complex .f64 (fl p) (fl q), .slice ao xs.length c, .int .i64 pos]) := hE1
    have HK1 : Hid (Kp w0.heap.size b w W1) := hK1
    have HC : Hid (w.heap.size ≠ b) := hcb
    have HB : Hid (_ ≤ 140737488355328) := hlen
    clear hS1 hE1 hK1 hcb hlen
    go_enter Tryd.func24, Tryd.ntmps24
    go_upto_region 1 with fail
    first | rw [hW] | skip
    clear hW
    obtain ⟨c0, c1, c2, c3, c4, c5, _⟩ := Bk.seven (show Bk W1 w.heap.size 39 [_, _, _, _, _, _, _] from HE1.out)
    have HM : Hid (BaC 35 w0 (.mk 19 name tail ty p q xs pos) [.int .i64 19, .string (bs name), .string (bs tail), .int .i64 ty, .complex .f64 (fl p) (fl q), .slice ao xs.length c, .int .i64 pos]) := hm
    clear hm
    go_wp2_with (first
      | refine wpList_loadN rfl 39 (.tmp 3) rfl w.heap.size 0 rfl [.int .i64 19, .string (bs name), .string (bs tail), .int .i64 ty, .complex .f64 (fl p) (fl q), .slice ao xs.length c, .int .i64 pos] _ (Bk.rng7 HE1.out) Tryd.underE Tryd.infoE ?_)
    refine (HM.out b l W1 HS1.out HB.out).mono ?_
    rintro r W2 ⟨rfl, hS, hK⟩
    have HS2 : Hid (St5 w0 b _ W2) := hS
    have HK2 : Hid (Kp w0.heap.size b w W2) := HK1.out.trans hK
    clear hS hK
    go_wp2
    go_end0
    refine ⟨rfl, ?_, HK2.out⟩
    exact HS2.out

set_option maxHeartbeats 4000000 in
theorem bare_b21 {w0 : World} {A : Nat → Prop} {name tail : List UInt8} {ty p q : Int} {xs : List Ex} {pos : Nat} {es : List Value} (hx : ExW w0 A (.mk 21 name tail ty p q xs pos) es) (hm : BaC 36 w0 (.mk 21 name tail ty p q xs pos) es) : BaC 24 w0 (.mk 21 name tail ty p q xs pos) es := by
  intro b l w hS hlen
  cases hx with
  | mk hl =>
    rename_i ao c
    have hb1 := below_alloc w (.cells #[.int .i64 21, .string (bs name), .string (bs tail), .int .i64 ty, .complex .f64 (fl p) (fl q), .slice ao xs.length c, .int .i64 pos] 39)
    have hS1 := hS.up hb1
    have hE1 := Bk.new w 39 #[.int .i64 21, .string (bs name), .string (bs tail), .int .i64 ty, .complex .f64 (fl p) (fl q), .slice ao xs.length c, .int .i64 pos]
    have hK1 := Kp.of_up (b := b) hb1 hS.le
    have hcb : w.heap.size ≠ b := by have := hS.wr.lt; omega
    clear hS hb1 hl
    generalize hW : w.alloc (.cells #[.int .i64 21, .string (bs name), .string (bs tail), .int .i64 ty, .complex .f64 (fl p) (fl q), .slice ao xs.length c, .int .i64 pos] 39) = W1 at *
    have HS1 : Hid (St5 w0 b l W1) := hS1
    have HE1 : Hid (Bk W1 w.heap.size 39 [.int .i64 21, .string (bs name), .string (bs tail), .int .i64 ty, .complex .f64 (fl p) (fl q), .slice ao xs.length c, .int .i64 pos]) := hE1
    have HK1 : Hid (Kp w0.heap.size b w W1) := hK1
    have HC : Hid (w.heap.size ≠ b) := hcb
    have HB : Hid (_ ≤ 140737488355328) := hlen
    clear hS1 hE1 hK1 hcb hlen
    go_enter Tryd.func24, Tryd.ntmps24
    go_upto_region 1 with fail
    first | rw [hW] | skip
    clear hW
    obtain ⟨c0, c1, c2, c3, c4, c5, _⟩ := Bk.seven (show Bk W1 w.heap.size 39 [_, _, _, _, _, _, _] from HE1.out)
    have HM : Hid (BaC 36 w0 (.mk 21 name tail ty p q xs pos) [.int .i64 21, .string (bs name), .string (bs tail), .int .i64 ty, .complex .f64 (fl p) (fl q), .slice ao xs.length c, .int .i64 pos]) := hm
    clear hm
    go_wp2_with (first
      | refine wpList_loadN rfl 39 (.tmp 3) rfl w.heap.size 0 rfl [.int .i64 21, .string (bs name), .string (bs tail), .int .i64 ty, .complex .f64 (fl p) (fl q), .slice ao xs.length c, .int .i64 pos] _ (Bk.rng7 HE1.out) Tryd.underE Tryd.infoE ?_)
    refine (HM.out b l W1 HS1.out HB.out).mono ?_
    rintro r W2 ⟨rfl, hS, hK⟩
    have HS2 : Hid (St5 w0 b _ W2) := hS
    have HK2 : Hid (Kp w0.heap.size b w W2) := HK1.out.trans hK
    clear hS hK
    go_wp2
    go_end0
    refine ⟨rfl, ?_, HK2.out⟩
    exact HS2.out

set_option maxHeartbeats 4000000 in
theorem bare_b22 {w0 : World} {A : Nat → Prop} {name tail : List UInt8} {ty p q : Int} {xs : List Ex} {pos : Nat} {es : List Value} (hx : ExW w0 A (.mk 22 name tail ty p q xs pos) es) (hm : BaC 36 w0 (.mk 22 name tail ty p q xs pos) es) : BaC 24 w0 (.mk 22 name tail ty p q xs pos) es := by
  intro b l w hS hlen
  cases hx with
  | mk hl =>
    rename_i ao c
    have hb1 := below_alloc w (.cells #[.int .i64 22, .string (bs name), .string (bs tail), .int .i64 ty, .complex .f64 (fl p) (fl q), .slice ao xs.length c, .int .i64 pos] 39)
    have hS1 := hS.up hb1
    have hE1 := Bk.new w 39 #[.int .i64 22, .string (bs name), .string (bs tail), .int .i64 ty, .complex .f64 (fl p) (fl q), .slice ao xs.length c, .int .i64 pos]
    have hK1 := Kp.of_up (b := b) hb1 hS.le
    have hcb : w.heap.size ≠ b := by have := hS.wr.lt; omega
    clear hS hb1 hl
    generalize hW : w.alloc (.cells #[.int .i64 22, .string (bs name), .string (bs tail), .int .i64 ty, .complex .f64 (fl p) (fl q), .slice ao xs.length c, .int .i64 pos] 39) = W1 at *
    have HS1 : Hid (St5 w0 b l W1) := hS1
    have HE1 : Hid (Bk W1 w.heap.size 39 [.int .i64 22, .string (bs name), .string (bs tail), .int .i64 ty, .complex .f64 (fl p) (fl q), .slice ao xs.length c, .int .i64 pos]) := hE1
    have HK1 : Hid (Kp w0.heap.size b w W1) := hK1
    have HC : Hid (w.heap.size ≠ b) := hcb
    have HB : Hid (_ ≤ 140737488355328) := hlen
    clear hS1 hE1 hK1 hcb hlen
    go_enter Tryd.func24, Tryd.ntmps24
    go_upto_region 1 with fail
    first | rw [hW] | skip
    clear hW
    obtain ⟨c0, c1, c2, c3, c4, c5, _⟩ := Bk.seven (show Bk W1 w.heap.size 39 [_, _, _, _, _, _, _] from HE1.out)
    have HM : Hid (BaC 36 w0 (.mk 22 name tail ty p q xs pos) [.int .i64 22, .string (bs name), .string (bs tail), .int .i64 ty, .complex .f64 (fl p) (fl q), .slice ao xs.length c, .int .i64 pos]) := hm
    clear hm
    go_wp2_with (first
      | refine wpList_loadN rfl 39 (.tmp 3) rfl w.heap.size 0 rfl [.int .i64 22, .string (bs name), .string (bs tail), .int .i64 ty, .complex .f64 (fl p) (fl q), .slice ao xs.length c, .int .i64 pos] _ (Bk.rng7 HE1.out) Tryd.underE Tryd.infoE ?_)
    refine (HM.out b l W1 HS1.out HB.out).mono ?_
    rintro r W2 ⟨rfl, hS, hK⟩
    have HS2 : Hid (St5 w0 b _ W2) := hS
    have HK2 : Hid (Kp w0.heap.size b w W2) := HK1.out.trans hK
    clear hS hK
    go_wp2
    go_end0
    refine ⟨rfl, ?_, HK2.out⟩
    exact HS2.out

set_option maxHeartbeats 4000000 in
theorem bare_look {w0 : World} {A : Nat → Prop} {name tail : List UInt8} {ty p q : Int} {xs : List Ex} {pos : Nat} {es : List Value} (hx : ExW w0 A (.mk 20 name tail ty p q xs pos) es) (hm : BaC 37 w0 (.mk 20 name tail ty p q xs pos) es) : BaC 24 w0 (.mk 20 name tail ty p q xs pos) es := by
  intro b l w hS hlen
  cases hx with
  | mk hl =>
    rename_i ao c
    have hb1 := below_alloc w (.cells #[.int .i64 20, .string (bs name), .string (bs tail), .int .i64 ty, .complex .f64 (fl p) (fl q), .slice ao xs.length c, .int .i64 pos] 39)
    have hS1 := hS.up hb1
    have hE1 := Bk.new w 39 #[.int .i64 20, .string (bs name), .string (bs tail), .int .i64 ty, .complex .f64 (fl p) (fl q), .slice ao xs.length c, .int .i64 pos]
    have hK1 := Kp.of_up (b := b) hb1 hS.le
    have hcb : w.heap.size ≠ b := by have := hS.wr.lt; omega
    clear hS hb1 hl
    generalize hW : w.alloc (.cells #[.int .i64 20, .string (bs name), .string (bs tail), .int .i64 ty, .complex .f64 (fl p) (fl q), .slice ao xs.length c, .int .i64 pos] 39) = W1 at *
    have HS1 : Hid (St5 w0 b l W1) := hS1
    have HE1 : Hid (Bk W1 w.heap.size 39 [.int .i64 20, .string (bs name), .string (bs tail), .int .i64 ty, .complex .f64 (fl p) (fl q), .slice ao xs.length c, .int .i64 pos]) := hE1
    have HK1 : Hid (Kp w0.heap.size b w W1) := hK1
    have HC : Hid (w.heap.size ≠ b) := hcb
    have HB : Hid (_ ≤ 140737488355328) := hlen
    clear hS1 hE1 hK1 hcb hlen
    go_enter Tryd.func24, Tryd.ntmps24
    go_upto_region 1 with fail
    first | rw [hW] | skip
    clear hW
    obtain ⟨c0, c1, c2, c3, c4, c5, _⟩ := Bk.seven (show Bk W1 w.heap.size 39 [_, _, _, _, _, _, _] from HE1.out)
    have HM : Hid (BaC 37 w0 (.mk 20 name tail ty p q xs pos) [.int .i64 20, .string (bs name), .string (bs tail), .int .i64 ty, .complex .f64 (fl p) (fl q), .slice ao xs.length c, .int .i64 pos]) := hm
    clear hm
    go_wp2_with (first
      | refine wpList_loadN rfl 39 (.tmp 3) rfl w.heap.size 0 rfl [.int .i64 20, .string (bs name), .string (bs tail), .int .i64 ty, .complex .f64 (fl p) (fl q), .slice ao xs.length c, .int .i64 pos] _ (Bk.rng7 HE1.out) Tryd.underE Tryd.infoE ?_)
    refine (HM.out b l W1 HS1.out HB.out).mono ?_
    rintro r W2 ⟨rfl, hS, hK⟩
    have HS2 : Hid (St5 w0 b _ W2) := hS
    have HK2 : Hid (Kp w0.heap.size b w W2) := HK1.out.trans hK
    clear hS hK
    go_wp2
    go_end0
    refine ⟨rfl, ?_, HK2.out⟩
    exact HS2.out

section
variable {Nm : List UInt8 → Prop} {Nu : Int → Int → Prop} (hNu : ∀ p q, Nu p q → p.natAbs ≤ 16777216 ∧ q.natAbs ≤ 16777216)
include hNu in
theorem bare_w {w0 : World} (hT : Tab w0) {A : Nat → Prop} (e : Ex) (hw : wfE Nm Nu e) (hsz : szE e ≤ 1073741824) (es : List Value) (hx : ExW w0 A e es) (ih : ∀ y : Ex, szE y < szE e → wfE Nm Nu y → ∀ vs, ExW w0 A y vs → ExC w0 y vs) :
    BaC 24 w0 e es := by
  obtain ⟨op, x, y, ty, p, q, xs, i⟩ := e
  rw [wfE_mk] at hw
  rw [szE_mk] at hsz ih
  obtain ⟨hw, hl⟩ := hw
  have hlen := length_szL xs
  have hp : ∀ k, k < xs.length → ∀ vs, ExW w0 A (xs.getD k ed) vs → ExC w0 (xs.getD k ed) vs := fun k hk vs hv => ih _ (by have := szE_at xs k hk; omega) (wfL_at xs hl k hk) vs hv
  have hpa := part_w hx hp
  generalize hle : xs.length = len at hw
  cases hw with
  | num h => exact bare_num hx hT (hNu _ _ h).1 (hNu _ _ h).2
  | word h =>
    rcases h with rfl | rfl | rfl
    · exact bare_true hx
    · exact bare_false hx
    · exact bare_nil hx
  | fail h => exact bare_fail hx h
  | var h => exact bare_var hx
  | call h => exact bare_call hx (call_w hx (by omega) hp)
  | one h =>
    have hm := worded_w h hx hle hpa
    rcases h with rfl | rfl | rfl | rfl
    · exact bare_un14 hx hm
    · exact bare_un15 hx hm
    · exact bare_un16 hx hm
    · exact bare_un17 hx hm
  | two h =>
    have hm := operation_w h hx hle hpa
    rcases h with rfl | rfl | rfl | rfl | rfl | rfl | rfl
    · exact bare_op18 hx hm
    · exact bare_op12 hx hm
    · exact bare_op13 hx hm
    · exact bare_op8 hx hm
    · exact bare_op9 hx hm
    · exact bare_op10 hx hm
    · exact bare_op11 hx hm
  | cond => exact bare_if hx (choice_w hx hle hpa)
  | bind h hy ht =>
    have hm := binding_w h ht hx hle hpa
    rcases h with rfl | rfl
    · exact bare_b21 hx hm
    · exact bare_b22 hx hm
  | look h1 h2 => exact bare_look hx (look_w hx hle hpa)
end

theorem wf_op {Nm : List UInt8 → Prop} {Nu : Int → Int → Prop} {op : Int} {x y : List UInt8} {ty p q : Int} {n : Nat} (h : Shp Nm Nu op x y ty p q n) : OpIn op := by
  unfold OpIn
  cases h <;> omega

set_option maxHeartbeats 4000000 in
theorem expr_of {w0 : World} {A : Nat → Prop} {op : Int} (ho : OpIn op) {name tail : List UInt8} {ty p q : Int} {xs : List Ex} {pos : Nat} {es : List Value} (hx : ExW w0 A (.mk op name tail ty p q xs pos) es)
    (hm : BaC 24 w0 (.mk op name tail ty p q xs pos) es) : ExC w0 (.mk op name tail ty p q xs pos) es := by
  intro b l w wanted hS h0 h5 hlen
  have hlv := lvl_nonneg op
  replace hlen : l.length + (brq (lvl op) wanted (shE (.mk op name tail ty p q xs pos))).length ≤ 140737488355328 := hlen
  show Calls Tryd.prog _ _ w fun r w' => StE w0 b (l ++ brq (lvl op) wanted _) w r w'
  cases hx with
  | mk hl =>
    rename_i ao c
    have hb1 := below_alloc w (.cells #[.int .i64 op, .string (bs name), .string (bs tail), .int .i64 ty, .complex .f64 (fl p) (fl q), .slice ao xs.length c, .int .i64 pos] 39)
    have hS1 := hS.up hb1
    have hE1 := Bk.new w 39 #[.int .i64 op, .string (bs name), .string (bs tail), .int .i64 ty, .complex .f64 (fl p) (fl q), .slice ao xs.length c, .int .i64 pos]
    have hK1 := Kp.of_up (b := b) hb1 hS.le
    have hcb : w.heap.size ≠ b := by have := hS.wr.lt; omega
    clear hS hb1 hl
    generalize hW : w.alloc (.cells #[.int .i64 op, .string (bs name), .string (bs tail), .int .i64 ty, .complex .f64 (fl p) (fl q), .slice ao xs.length c, .int .i64 pos] 39) = W1 at *
    have HS1 : Hid (St5 w0 b l W1) := hS1
    have HE1 : Hid (Bk W1 w.heap.size 39 [.int .i64 op, .string (bs name), .string (bs tail), .int .i64 ty, .complex .f64 (fl p) (fl q), .slice ao xs.length c, .int .i64 pos]) := hE1
    have HK1 : Hid (Kp w0.heap.size b w W1) := hK1
    have HC : Hid (w.heap.size ≠ b) := hcb
    have HM : Hid (BaC 24 w0 (.mk op name tail ty p q xs pos) [.int .i64 op, .string (bs name), .string (bs tail), .int .i64 ty, .complex .f64 (fl p) (fl q), .slice ao xs.length c, .int .i64 pos]) := hm
    have HO : Hid (OpIn op) := ho
    generalize hs : shE (.mk op name tail ty p q xs pos) = s at *
    have HM2 : Hid (∀ (l : List UInt8) (w : World), St5 w0 b l w → l.length + s.length ≤ 140737488355328 → Calls Tryd.prog 24 #[.pointer (some ⟨b, 0, none⟩), .agg #[.int .i64 op, .string (bs name), .string (bs tail), .int .i64 ty, .complex .f64 (fl p) (fl q), .slice ao xs.length c, .int .i64 pos]] w fun r w' => StE w0 b (l ++ s) w r w') := by
      intro l w h1 h2
      have := HM.out b l w h1 (by rw [hs]; exact h2)
      rw [hs] at this
      exact this
    clear hs HM
    have hlev := level_w HO.out W1
    clear hS1 hE1 hK1 hcb hm ho
    by_cases hlt : lvl op < wanted
    · have e1 : brq (lvl op) wanted s = [40] ++ s ++ [41] := by unfold brq; rw [if_pos hlt]
      rw [e1] at hlen ⊢
      simp only [List.length_append, List.length_cons, List.length_nil] at hlen
      clear e1
      generalize lvl op = lv at *
      have b0 : l.length + ([[40]].flatten : List UInt8).length ≤ 140737488355328 := by simp only [List.flatten_cons, List.flatten_nil, List.append_nil, List.length_cons, List.length_nil]; omega
      have b1 : (l ++ [[40]].flatten).length + s.length ≤ 140737488355328 := by simp only [List.length_append, List.flatten_cons, List.flatten_nil, List.append_nil, List.length_cons, List.length_nil]; omega
      have b2 : (l ++ [[40]].flatten ++ s).length + ([[41]].flatten : List UInt8).length ≤ 140737488355328 := by simp only [List.length_append, List.flatten_cons, List.flatten_nil, List.append_nil, List.length_cons, List.length_nil]; omega
      have hnot : ¬ wanted ≤ lv := by omega
      clear hlen hlt
      go_enter Tryd.func15, Tryd.ntmps15
      go_upto_region 1 with fail
      first | rw [hW] | skip
      clear hW
      obtain ⟨c0, c1, c2, c3, _, c5, _⟩ := Bk.seven (show Bk W1 w.heap.size 39 [_, _, _, _, _, _, _] from HE1.out)
      go_wp2_with fail
      refine hlev.mono ?_
      rintro r wq ⟨rfl, hwq⟩
      rw [hwq]
      clear hwq hlev
      go_wp2_with fail
      refine (add_st HS1.out [[40]] _ rfl 1 rfl (by decide) b0).mono ?_
      rintro r W2 ⟨rfl, hS, hK⟩
      have HS2 : Hid (St5 w0 b _ W2) := hS
      have HE2 : Hid (Bk W2 w.heap.size 39 [.int .i64 op, .string (bs name), .string (bs tail), .int .i64 ty, .complex .f64 (fl p) (fl q), .slice ao xs.length c, .int .i64 pos]) := hK.bk HE1.out (by decide) HC.out
      have HK2 : Hid (Kp w0.heap.size b w W2) := HK1.out.trans hK
      clear hS hK c0 c1 c2 c3 c5
      go_wp2_with (first
        | refine wpList_loadN rfl 39 (.tmp 4) rfl w.heap.size 0 rfl [.int .i64 op, .string (bs name), .string (bs tail), .int .i64 ty, .complex .f64 (fl p) (fl q), .slice ao xs.length c, .int .i64 pos] _ (Bk.rng7 HE2.out) Tryd.underE Tryd.infoE ?_)
      refine (HM2.out _ W2 HS2.out b1).mono ?_
      rintro r W3 ⟨rfl, hS, hK⟩
      have HS3 : Hid (St5 w0 b _ W3) := hS
      have HK3 : Hid (Kp w0.heap.size b w W3) := HK2.out.trans hK
      clear hS hK
      go_wp2_with fail
      refine (add_st HS3.out [[41]] _ rfl 1 rfl (by decide) b2).mono ?_
      rintro r W4 ⟨rfl, hS, hK⟩
      have HS4 : Hid (St5 w0 b _ W4) := hS
      have HK4 : Hid (Kp w0.heap.size b w W4) := HK3.out.trans hK
      clear hS hK
      go_wp2
      go_end0
      refine ⟨rfl, ?_, HK4.out⟩
      have := HS4.out
      simpa only [List.flatten_cons, List.flatten_nil, List.append_nil, List.append_assoc, List.cons_append, List.nil_append] using this
    · have e1 : brq (lvl op) wanted s = s := by unfold brq; rw [if_neg hlt]
      rw [e1] at hlen ⊢
      clear e1
      generalize lvl op = lv at *
      have b1 : l.length + s.length ≤ 140737488355328 := by omega
      have hyes : wanted ≤ lv := by omega
      clear hlen hlt
      go_enter Tryd.func15, Tryd.ntmps15
      go_upto_region 1 with fail
      first | rw [hW] | skip
      clear hW
      obtain ⟨c0, c1, c2, c3, _, c5, _⟩ := Bk.seven (show Bk W1 w.heap.size 39 [_, _, _, _, _, _, _] from HE1.out)
      go_wp2_with fail
      refine hlev.mono ?_
      rintro r wq ⟨rfl, hwq⟩
      rw [hwq]
      clear hwq hlev
      go_wp2_with (first
        | refine wpList_loadN rfl 39 (.tmp 4) rfl w.heap.size 0 rfl [.int .i64 op, .string (bs name), .string (bs tail), .int .i64 ty, .complex .f64 (fl p) (fl q), .slice ao xs.length c, .int .i64 pos] _ (Bk.rng7 HE1.out) Tryd.underE Tryd.infoE ?_)
      refine (HM2.out _ W1 HS1.out b1).mono ?_
      rintro r W2 ⟨rfl, hS, hK⟩
      have HS2 : Hid (St5 w0 b _ W2) := hS
      have HK2 : Hid (Kp w0.heap.size b w W2) := HK1.out.trans hK
      clear hS hK
      go_wp2
      go_end0
      exact ⟨rfl, HS2.out, HK2.out⟩

section
variable {Nm : List UInt8 → Prop} {Nu : Int → Int → Prop} (hNu : ∀ p q, Nu p q → p.natAbs ≤ 16777216 ∧ q.natAbs ≤ 16777216)
include hNu in
theorem expr_w {w0 : World} (hT : Tab w0) {A : Nat → Prop} : ∀ (n : Nat) (e : Ex), szE e ≤ n → n ≤ 1073741824 → wfE Nm Nu e → ∀ es, ExW w0 A e es → ExC w0 e es := by
  intro n
  induction n with
  | zero => intro e h; have := szE_pos e; omega
  | succ n ih =>
    intro e h hn hw es hx
    have hb := bare_w hNu hT e hw (by omega) es hx fun y hy hwy vs hv => ih y (by omega) (by omega) hwy vs hv
    obtain ⟨op, x, y, ty, p, q, xs, i⟩ := e
    rw [wfE_mk] at hw
    exact expr_of (wf_op hw.1) hx hb
end
end Go.Proofs.YtndgglhppoijnaaDoor
/-
  The writer's walk of a definition; the walks of show.Program and show.Expr.
-/
namespace Go.Proofs.YtndgglhppoijnaaDoor
open Go.RowKit
set_option maxRecDepth 100000

theorem Tryd.infoPm : (Tryd.prog.info? 69).map (·.size) = some 3 := by kernel_rfl
theorem Tryd.underPm : Tryd.prog.underlying 69 = some (.struct (Tryd.prog.underlying 69 |>.map (fun | .struct f => f | _ => #[]) |>.getD #[])) := by kernel_rfl

theorem pmK_mono (ps : List Pm) {k : Nat} (hk : k < ps.length) : (pmK ps k).length + (if k = 0 then 0 else 2) + (pmT (ps.getD k pd)).length ≤ (pmK ps ps.length).length := by
  have h1 : (pmK ps (k + 1)).length ≤ (pmK ps ps.length).length := by
    have : ∀ d, k + 1 + d ≤ ps.length → (pmK ps (k + 1)).length ≤ (pmK ps (k + 1 + d)).length := by
      intro d
      induction d with
      | zero => intro _; exact Nat.le_refl _
      | succ d ih =>
        intro h
        have e := pmK_succ (ps := ps) (k := k + 1 + d) (by omega)
        have := ih (by omega)
        rw [show k + 1 + (d + 1) = k + 1 + d + 1 by omega, e, List.length_append]
        omega
    have := this (ps.length - (k + 1)) (by omega)
    rwa [show k + 1 + (ps.length - (k + 1)) = ps.length by omega] at this
  rw [pmK_succ hk, List.length_append, List.length_append] at h1
  by_cases e : k = 0
  · rw [if_pos e] at h1 ⊢; simp only [List.length_nil] at h1; omega
  · rw [if_neg e] at h1 ⊢; simp only [List.length_cons, List.length_nil] at h1; omega

theorem getD_mem {α : Type} (d : α) : ∀ (xs : List α) (k : Nat), k < xs.length → xs.getD k d ∈ xs
  | [], k, h => by simp at h
  | x :: xs, 0, _ => by simp
  | x :: xs, k + 1, h => by rw [List.getD_cons_succ]; exact List.mem_cons_of_mem _ (getD_mem d xs k (by simpa using h))

set_option maxHeartbeats 8000000 in
theorem definition_w {w0 : World} {A : Nat → Prop} {g : Fn1} (hty : g.ty = 1 ∨ g.ty = 2 ∨ g.ty = 3) (hpt : ∀ x ∈ g.pms, x.ty = 1 ∨ x.ty = 2 ∨ x.ty = 3) (hpl : g.pms.length ≤ 1073741824) {vs : List Value} (hx : FnW w0 A g vs)
    (hbody : ∀ es, ExW w0 A g.body es → ExC w0 g.body es) (b : Nat) (l : List UInt8) (w : World) (hS : St5 w0 b l w) (hlen : l.length + (dfT g).length ≤ 140737488355328) :
    Calls Tryd.prog 11 #[.pointer (some ⟨b, 0, none⟩), .agg vs.toArray] w fun r w' => StE w0 b (l ++ dfT g) w r w' := by
  obtain ⟨ao, c, es, rfl, hp1, he1⟩ := hx
  obtain ⟨name, ps, ty, body, pos⟩ := g
  dsimp only at hty hpt hpl hp1 he1 hbody
  have hbc := hbody es he1
  have hone := he1.one
  obtain ⟨x0, x1, x2, x3, x4, x5, x6, rfl⟩ := list7 he1.len
  unfold dfT at hlen ⊢
  dsimp only at hlen ⊢
  simp only [List.length_append, List.length_cons, List.length_nil] at hlen
  have b0 : l.length + ([name, [40]].flatten).length ≤ 140737488355328 := by simp only [List.length_append, List.flatten_cons, List.flatten_nil, List.length_cons, List.length_nil]; omega
  have b1 : (l ++ [name, [40]].flatten ++ pmK ps ps.length).length + ([[41, 58, 32], letT ty, [32, 61, 32]].flatten).length ≤ 140737488355328 := by simp only [List.length_append, List.flatten_cons, List.flatten_nil, List.length_cons, List.length_nil]; omega
  have b2 : (l ++ [name, [40]].flatten ++ pmK ps ps.length ++ [[41, 58, 32], letT ty, [32, 61, 32]].flatten).length + (brq (lvl body.op) 0 (shE body)).length ≤ 140737488355328 := by
    rw [brq_zero]
    simp only [List.length_append, List.flatten_cons, List.flatten_nil, List.length_cons, List.length_nil]; omega
  have b3 : (l ++ [name, [40]].flatten ++ pmK ps ps.length ++ [[41, 58, 32], letT ty, [32, 61, 32]].flatten ++ brq (lvl body.op) 0 (shE body)).length + ([[59]].flatten : List UInt8).length ≤ 140737488355328 := by
    rw [brq_zero]
    simp only [List.length_append, List.flatten_cons, List.flatten_nil, List.length_cons, List.length_nil]; omega
  have bk : ∀ k, k < ps.length → (k = 0 ∨ (l ++ [name, [40]].flatten ++ pmK ps k).length + 2 ≤ 140737488355328) ∧ (l ++ [name, [40]].flatten ++ pmK ps k ++ (if k = 0 then [] else [44, 32])).length + ([(ps.getD k pd).name, [32], letT (ps.getD k pd).ty].flatten).length ≤ 140737488355328 := by
    intro k hk
    have := pmK_mono ps hk
    unfold pmT at this
    simp only [List.length_append, List.flatten_cons, List.flatten_nil, List.length_cons, List.length_nil] at this ⊢
    by_cases e : k = 0
    · rw [if_pos e] at this ⊢; simp only [List.length_nil]; omega
    · rw [if_neg e] at this ⊢; simp only [List.length_cons, List.length_nil]; omega
  have BK : Hid (∀ k, k < ps.length → (k = 0 ∨ (l ++ [name, [40]].flatten ++ pmK ps k).length + 2 ≤ 140737488355328) ∧ (l ++ [name, [40]].flatten ++ pmK ps k ++ (if k = 0 then [] else [44, 32])).length + ([(ps.getD k pd).name, [32], letT (ps.getD k pd).ty].flatten).length ≤ 140737488355328) := bk
  have hb1 := below_alloc w (.cells #[.string (bs name), .slice ao ps.length c, .int .i64 ty, x0, x1, x2, x3, x4, x5, x6, .int .i64 pos] 41)
  have hS1 := hS.up hb1
  have hE1 := Bk.new w 41 #[.string (bs name), .slice ao ps.length c, .int .i64 ty, x0, x1, x2, x3, x4, x5, x6, .int .i64 pos]
  have hK1 := Kp.of_up (b := b) hb1 hS.le
  have hcb : w.heap.size ≠ b := by have := hS.wr.lt; omega
  clear hS hb1 he1 bk hlen hbody
  generalize hW : w.alloc (.cells #[.string (bs name), .slice ao ps.length c, .int .i64 ty, x0, x1, x2, x3, x4, x5, x6, .int .i64 pos] 41) = W1 at *
  have HS1 : Hid (St5 w0 b l W1) := hS1
  have HE1 : Hid (Bk W1 w.heap.size 41 [.string (bs name), .slice ao ps.length c, .int .i64 ty, x0, x1, x2, x3, x4, x5, x6, .int .i64 pos]) := hE1
  have HK1 : Hid (Kp w0.heap.size b w W1) := hK1
  have HC : Hid (w.heap.size ≠ b) := hcb
  have HP : Hid (PlW w0 A ao ps) := hp1
  have HT : Hid (ty = 1 ∨ ty = 2 ∨ ty = 3) := hty
  have HPT : Hid (∀ x ∈ ps, x.ty = 1 ∨ x.ty = 2 ∨ x.ty = 3) := hpt
  have HX : Hid (ExC w0 body [x0, x1, x2, x3, x4, x5, x6]) := hbc
  clear hS1 hE1 hK1 hcb hp1 hty hpt hbc
  go_enter Tryd.func11, Tryd.ntmps11
  go_upto_region 1 with fail
  first | rw [hW] | skip
  clear hW
  have c0 := HE1.out.cell 0
  have c1 := HE1.out.cell 1
  have c2 := HE1.out.cell 2
  dsimp only [List.getElem?_cons_zero, List.getElem?_cons_succ] at c0 c1 c2
  go_wp2_with fail
  refine (add_st HS1.out [name, [40]] _ rfl 2 rfl (by decide) b0).mono ?_
  rintro r W2 ⟨rfl, hS, hK⟩
  have HS2 : Hid (St5 w0 b _ W2) := hS
  have HE2 : Hid (Bk W2 w.heap.size 41 [.string (bs name), .slice ao ps.length c, .int .i64 ty, x0, x1, x2, x3, x4, x5, x6, .int .i64 pos]) := hK.bk HE1.out (by decide) HC.out
  have HK2 : Hid (Kp w0.heap.size b w W2) := HK1.out.trans hK
  clear hS hK c0 c1 c2
  have c1 := HE2.out.cell 1
  dsimp only [List.getElem?_cons_zero, List.getElem?_cons_succ] at c1
  go_wp2_with fail
  clear c1
  go_loopw [14] (fun i wr => ∃ k : Nat, k ≤ ps.length ∧ i = .int .i64 k ∧ St5 w0 b (l ++ [name, [40]].flatten ++ pmK ps k) wr ∧ Kp w0.heap.size b w wr ∧ Kp w0.heap.size b W2 wr) (fun i _ => ps.length - (intOf i).toNat)
  case atStart => exact ⟨0, Nat.zero_le _, rfl, by rw [pmK_zero, List.append_nil]; exact HS2.out, HK2.out, Kp.refl _ _ _⟩
  case round =>
    obtain ⟨k, hkn, rfl, hSr, hKr, hKs⟩ := hrel
    by_cases hlt : k < ps.length
    · obtain ⟨G, rfl, hu⟩ := HP.out.at k hlt
      obtain ⟨bk1, bk2⟩ := BK.out k hlt
      have hus := pmK_succ hlt
      have hpk := HPT.out _ (getD_mem pd ps k hlt)
      have hki : k ≤ 9223372036854775807 := by omega
      generalize hgp : ps.getD k pd = P at *
      obtain ⟨pn, pt0, pp⟩ := P
      unfold pmC at hu
      dsimp only at hu hpk bk2 hus
      have hur : wr.rangeAt G (k * 3) [.string (bs pn), .int .i64 pt0, .int .i64 pp] := range_keep hu (by simp) fun hlt => hSr.low.block _ hlt
      have hb5 := below_alloc wr (.cells #[.string ⟨#[]⟩, .int .i64 0, .int .i64 0] 69)
      have hQ5 := Bk.new wr 69 #[.string ⟨#[]⟩, .int .i64 0, .int .i64 0]
      have hcr : wr.heap.size ≠ b := by have := hSr.wr.lt; omega
      have HSr : Hid (St5 w0 b _ wr) := hSr
      have HKr : Hid (Kp w0.heap.size b w wr) := hKr
      have HKs : Hid (Kp w0.heap.size b W2 wr) := hKs
      have HU : Hid (pmK ps (k + 1) = _) := hus
      have HB1 : Hid (k = 0 ∨ _) := bk1
      have HB2 : Hid (_ ≤ 140737488355328) := bk2
      have HCR : Hid (wr.heap.size ≠ b) := hcr
      have HB5 : Hid (Below wr.heap.size wr _) := hb5
      have HPK : Hid (pt0 = 1 ∨ pt0 = 2 ∨ pt0 = 3) := hpk
      clear hu hSr hKr hKs hus bk1 bk2 hcr hb5 hpk hgp
      go_wp2_with (first
        | refine wpList_loadN rfl 69 (.tmp 17) rfl G (k * 3) rfl [.string (bs pn), .int .i64 pt0, .int .i64 pp] _ hur Tryd.underPm Tryd.infoPm ?_
        | (refine wpList_storeN rfl 69 (.tmp 5) (.tmp 18) rfl wr.heap.size 0 [.string (bs pn), .int .i64 pt0, .int .i64 pp] rfl rfl hQ5 (Nat.le_refl 3) Tryd.infoPm (by intro v hv; simp only [List.mem_cons, List.not_mem_nil, or_false] at hv; rcases hv with rfl | rfl | rfl <;> rfl) ?_; intro w6 hQ6 ho6))
      have hb6 := below_oth HB5.out ho6 (Nat.le_refl _)
      have HS6 : Hid (St5 w0 b _ w6) := HSr.out.up hb6
      have HK6 : Hid (Kp w0.heap.size b w w6) := HKr.out.trans (Kp.of_up hb6 HSr.out.le)
      have HKs6 : Hid (Kp w0.heap.size b W2 w6) := HKs.out.trans (Kp.of_up hb6 HSr.out.le)
      have HQ6 : Hid (Bk w6 wr.heap.size 69 [.string (bs pn), .int .i64 pt0, .int .i64 pp]) := hQ6
      clear hb6 hQ6 ho6 hQ5 hur
      refine (comma_st HS6.out k hki HB1.out).mono ?_
      rintro r W7 ⟨rfl, hS, hK⟩
      have HS7 : Hid (St5 w0 b _ W7) := hS
      have HK7 : Hid (Kp w0.heap.size b w W7) := HK6.out.trans hK
      have HKs7 : Hid (Kp w0.heap.size b W2 W7) := HKs6.out.trans hK
      have HQ7 : Hid (Bk W7 wr.heap.size 69 [.string (bs pn), .int .i64 pt0, .int .i64 pp]) := hK.bk HQ6.out (by decide) HCR.out
      clear hS hK
      have hadd := add_st (HS7.out.up (Below.refl _ W7).drew) [pn, [32], letT pt0] _ rfl 3 rfl (by decide) HB2.out
      have sB : ∀ W, Bk W wr.heap.size 69 [.string (bs pn), .int .i64 pt0, .int .i64 pp] → W.cell? ⟨wr.heap.size, 0, none⟩ = some (.string (bs pn)) ∧ W.cell? ⟨wr.heap.size, 1, none⟩ = some (.int .i64 pt0) := fun W h => ⟨h.cell 0, h.cell 1⟩
      have s1 := sB W7 HQ7.out
      have sD := sB W7.drew (HQ7.out.up (Below.refl _ W7).drew)
      have sA := fun o => sB (W7.drew.alloc o) ((HQ7.out.up (Below.refl _ W7).drew).alloc o)
      have hlt2 := fun W => letter_w HPK.out W
      go_wp2_with fail
      go_region_held3 (fun W => W.cell? ⟨wr.heap.size, 0, none⟩ = some (.string (bs pn)) ∧ W.cell? ⟨wr.heap.size, 1, none⟩ = some (.int .i64 pt0)) (first | exact s1 | exact sD | exact sA _ | exact s2) (first
        | (go_at_call 19; refine (hlt2 _).mono ?_; rintro r wq ⟨rfl, hwq⟩; rw [hwq]; clear hwq)
        | (go_at_call 12; refine hadd.mono ?_; rintro r W8 ⟨rfl, hS, hK⟩; have s2 := sB W8 (hK.bk (HQ7.out.up (Below.refl _ W7).drew) (by decide) HCR.out))
        | fail)
      all_goals
        have HS8 : Hid (St5 w0 b _ W8) := hS
        have HK8 : Hid (Kp w0.heap.size b w W8) := HK7.out.trans ((Kp.of_up (Below.refl _ W7).drew HS7.out.le).trans hK)
        have HKs8 : Hid (Kp w0.heap.size b W2 W8) := HKs7.out.trans ((Kp.of_up (Below.refl _ W7).drew HS7.out.le).trans hK)
        clear hS hK s1 sD sA s2 hadd
        go_wp2_with fail
        go_roundw
        case rel =>
          refine ⟨k + 1, by omega, by go_num, ?_, HK8.out, HKs8.out⟩
          rw [HU.out]
          have := HS8.out
          simpa [pmT] using this
        case measure => simp [intOf]; omega
    · have hke : k = ps.length := by omega
      subst hke
      have HSr : Hid (St5 w0 b _ wr) := hSr
      have HKr : Hid (Kp w0.heap.size b w wr) := hKr
      have HEr : Hid (Bk wr w.heap.size 41 [.string (bs name), .slice ao ps.length c, .int .i64 ty, x0, x1, x2, x3, x4, x5, x6, .int .i64 pos]) := hKs.bk HE2.out (by decide) HC.out
      clear hSr hKr hKs
      have c2 := HEr.out.cell 2
      dsimp only [List.getElem?_cons_zero, List.getElem?_cons_succ] at c2
      go_wp2_with fail
      refine (letter_w HT.out wr).mono ?_
      rintro r wq ⟨rfl, hwq⟩
      rw [hwq]
      clear hwq
      go_wp2_with fail
      refine (add_st HSr.out [[41, 58, 32], letT ty, [32, 61, 32]] _ rfl 3 rfl (by decide) b1).mono ?_
      rintro r W3 ⟨rfl, hS, hK⟩
      have HS3 : Hid (St5 w0 b _ W3) := hS
      have HE3 : Hid (Bk W3 w.heap.size 41 [.string (bs name), .slice ao ps.length c, .int .i64 ty, x0, x1, x2, x3, x4, x5, x6, .int .i64 pos]) := hK.bk HEr.out (by decide) HC.out
      have HK3 : Hid (Kp w0.heap.size b w W3) := HKr.out.trans hK
      clear hS hK c2
      have hr7 : W3.rangeAt w.heap.size 3 [x0, x1, x2, x3, x4, x5, x6] := HE3.out.rng 3 _ fun j v hv => by
        have hj := (List.getElem?_eq_some_iff.1 hv).1
        simp only [List.length_cons, List.length_nil] at hj
        match j, hj, hv with
        | 0, _, hv => exact hv
        | 1, _, hv => exact hv
        | 2, _, hv => exact hv
        | 3, _, hv => exact hv
        | 4, _, hv => exact hv
        | 5, _, hv => exact hv
        | 6, _, hv => exact hv
        | j + 7, h, _ => omega
      go_wp2_with (first
        | refine wpList_loadN rfl 39 (.tmp 38) rfl w.heap.size 3 rfl [x0, x1, x2, x3, x4, x5, x6] _ hr7 Tryd.underE Tryd.infoE ?_)
      refine (HX.out b _ W3 0 HS3.out (by decide) (by decide) b2).mono ?_
      rintro r W4 ⟨rfl, hS, hK⟩
      have HS4 : Hid (St5 w0 b _ W4) := hS
      have HK4 : Hid (Kp w0.heap.size b w W4) := HK3.out.trans hK
      clear hS hK
      go_wp2_with fail
      refine (add_st HS4.out [[59]] _ rfl 1 rfl (by decide) b3).mono ?_
      rintro r W5 ⟨rfl, hS, hK⟩
      have HS5 : Hid (St5 w0 b _ W5) := hS
      have HK5 : Hid (Kp w0.heap.size b w W5) := HK4.out.trans hK
      clear hS hK
      go_wp2
      go_end0
      refine ⟨rfl, ?_, HK5.out⟩
      have := HS5.out
      rw [brq_zero] at this
      simpa only [List.flatten_cons, List.flatten_nil, List.append_nil, List.append_assoc, List.cons_append, List.nil_append] using this

section
variable {Nm : List UInt8 → Prop} {Nu : Int → Int → Prop} (hNu : ∀ p q, Nu p q → p.natAbs ≤ 16777216 ∧ q.natAbs ≤ 16777216)

theorem shE_ne {Nm : List UInt8 → Prop} {Nu : Int → Int → Prop} (hN0 : ∀ x, Nm x → x ≠ []) (hU0 : ∀ p q, Nu p q → txt p q ≠ []) (e : Ex) (hw : wfE Nm Nu e) : shE e ≠ [] := by
  obtain ⟨op, x, y, ty, p, q, xs, i⟩ := e
  rw [wfE_mk] at hw
  rw [shE_mk]
  obtain ⟨hw, _⟩ := hw
  generalize xs.length = len at hw
  cases hw with
  | num h => exact hU0 _ _ h
  | word h => rcases h with rfl | rfl | rfl <;> simp [fm, wordT]
  | fail h => simp [fm, wordT]
  | var h => exact hN0 _ h
  | call h => simp [fm]
  | one h => rcases h with rfl | rfl | rfl | rfl <;> simp [fm, wordT]
  | two h => rcases h with rfl | rfl | rfl | rfl | rfl | rfl | rfl <;> simp [fm]
  | cond => simp [fm]
  | bind h hx ht => rcases h with rfl | rfl <;> simp [fm]
  | look => simp [fm]

include hNu in
set_option maxHeartbeats 4000000 in
theorem showExpr_w {w : World} (hT : Tab w) {A : Nat → Prop} (e : Ex) (hw : wfE Nm Nu e) (hsz : szE e ≤ 1073741824) (hne : shE e ≠ []) (es : List Value) (hx : ExW w A e es) (hlen : (shE e).length ≤ 140737488355328) :
    Calls Tryd.prog 8 #[.agg es.toArray] w fun r w' => r = .returned (.string (bs (shE e))) ∧ Below w.heap.size w w' := by
  have hone := hx.one
  obtain ⟨x0, x1, x2, x3, x4, x5, x6, rfl⟩ := list7 hx.len
  have hb0 := below_alloc w (.cells #[x0, x1, x2, x3, x4, x5, x6] 39)
  have hE0 := Bk.new w 39 #[x0, x1, x2, x3, x4, x5, x6]
  generalize hW : w.alloc (.cells #[x0, x1, x2, x3, x4, x5, x6] 39) = W0 at *
  have hC := expr_w hNu (tab_keep hT hb0) _ e (Nat.le_refl _) hsz hw _ (hx.up hb0)
  have hwr : St5 W0 W0.heap.size [] (W0.alloc (.cells #[.pointer none, .slice none 0 0] 54)) := ⟨Wr5.new W0, below_alloc _ _⟩
  have hE1 := hE0.up (below_alloc W0 (.cells #[.pointer none, .slice none 0 0] 54))
  have hcall := hC W0.heap.size [] _ 0 hwr (by decide) (by decide) (by rw [brq_zero]; simpa using hlen)
  rw [List.nil_append, brq_zero] at hcall
  generalize hV : W0.alloc (.cells #[.pointer none, .slice none 0 0] 54) = V0 at *
  have HE1 : Hid (Bk V0 w.heap.size 39 [x0, x1, x2, x3, x4, x5, x6]) := hE1
  have HB0 : Hid (Below w.heap.size w W0) := hb0
  have HNE : Hid (shE e ≠ []) := hne
  clear hE0 hE1 hwr hC hone hx hT hb0 hlen hne
  go_enter Tryd.func8, Tryd.ntmps8
  go_upto_region 2 with fail
  first | rw [hW] | skip
  first | rw [hV] | skip
  clear hW hV
  go_wp2_with (first
    | refine wpList_loadN rfl 39 (.tmp 1) rfl w.heap.size 0 rfl [x0, x1, x2, x3, x4, x5, x6] _ (Bk.rng7 HE1.out) Tryd.underE Tryd.infoE ?_)
  refine hcall.mono ?_
  rintro r W2 ⟨rfl, hS, hK⟩
  have hst := string_w hS.wr HNE.out
  have HL : Hid (Below W0.heap.size W0 W2) := hS.low
  clear hS hK hcall
  go_wp2_with fail
  refine hst.mono ?_
  rintro r W3 ⟨rfl, hb⟩
  have HB3 : Hid (Below w.heap.size w W3) := HB0.out.trans ((HL.out.trans hb).mono HB0.out.size)
  clear hb
  go_wp2
  go_ret
  exact ⟨rfl, HB3.out⟩
end
end Go.Proofs.YtndgglhppoijnaaDoor
/-
  The walk of show.Program.
-/
namespace Go.Proofs.YtndgglhppoijnaaDoor
open Go.RowKit
set_option maxRecDepth 100000

theorem prT_mono (gs : List Fn1) {k : Nat} (hk : k < gs.length) : (prT (gs.take k)).length + (dfT (gs.getD k fd)).length + 1 ≤ (prT gs).length := by
  have h1 : (prT (gs.take (k + 1))).length ≤ (prT gs).length := by
    have e : gs = gs.take (k + 1) ++ gs.drop (k + 1) := (List.take_append_drop _ _).symm
    have e2 : prT gs = prT (gs.take (k + 1)) ++ prT (gs.drop (k + 1)) := by
      conv => lhs; rw [e]
      unfold prT
      rw [List.map_append, List.flatten_append]
    rw [e2, List.length_append]
    omega
  rw [prT_succ hk, List.length_append, List.length_append] at h1
  simp only [List.length_cons, List.length_nil] at h1
  omega

section
variable {Nm : List UInt8 → Prop} {Nu : Int → Int → Prop} (hNu : ∀ p q, Nu p q → p.natAbs ≤ 16777216 ∧ q.natAbs ≤ 16777216)
include hNu in
set_option maxHeartbeats 8000000 in
theorem showProgram_w {w : World} (hT : Tab w) {A : Nat → Prop} (gs : List Fn1) (hgs : gs ≠ []) (hgl : gs.length ≤ 1073741824) (hwf : ∀ g ∈ gs, WfF Nm Nu g) (hsz : ∀ g ∈ gs, szE g.body ≤ 1073741824) (hpm : ∀ g ∈ gs, g.pms.length ≤ 1073741824) {ao : Option Addr} {c : Nat} (hx : FlW w A ao gs)
    (hlen : (prT gs).length ≤ 140737488355328) :
    Calls Tryd.prog 6 #[.agg #[.slice ao gs.length c]] w fun r w' => r = .returned (.string (bs (prT gs))) ∧ Below w.heap.size w w' := by
  have hb0 := below_alloc w (.cells #[.slice ao gs.length c] 26)
  have hE0 := Bk.new w 26 #[.slice ao gs.length c]
  generalize hW : w.alloc (.cells #[.slice ao gs.length c] 26) = W0 at *
  have hT0 := tab_keep hT hb0
  have hx0 := hx.up hb0
  have hwr : St5 W0 W0.heap.size [] (W0.alloc (.cells #[.pointer none, .slice none 0 0] 54)) := ⟨Wr5.new W0, below_alloc _ _⟩
  have hE1 := hE0.up (below_alloc W0 (.cells #[.pointer none, .slice none 0 0] 54))
  have hprne : prT gs ≠ [] := by
    cases gs with
    | nil => exact absurd rfl hgs
    | cons g r => simp [prT]
  generalize hV : W0.alloc (.cells #[.pointer none, .slice none 0 0] 54) = V0 at *
  have c0 : V0.cell? ⟨w.heap.size, 0, none⟩ = some (.slice ao gs.length c) := hE1.cell 0
  have HB0 : Hid (Below w.heap.size w W0) := hb0
  have HNE : Hid (prT gs ≠ []) := hprne
  have HS0 : Hid (St5 W0 W0.heap.size [] V0) := hwr
  have HX : Hid (FlW W0 A ao gs) := hx0
  have HD : Hid (∀ g ∈ gs, ∀ vs, FnW W0 A g vs → ∀ (b : Nat) (l : List UInt8) (w : World), St5 W0 b l w → l.length + (dfT g).length ≤ 140737488355328 → Calls Tryd.prog 11 #[.pointer (some ⟨b, 0, none⟩), .agg vs.toArray] w fun r w' => StE W0 b (l ++ dfT g) w r w') :=
    fun g hg vs hv b l w hs hl => definition_w (hwf g hg).ty (fun x hx => ((hwf g hg).pms x hx).2) (hpm g hg) hv (fun es he => expr_w hNu hT0 _ g.body (Nat.le_refl _) (hsz g hg) (hwf g hg).body es he) b l w hs hl
  have bk : ∀ k, k < gs.length → (prT (gs.take k)).length + (dfT (gs.getD k fd)).length ≤ 140737488355328 ∧ (prT (gs.take k) ++ dfT (gs.getD k fd)).length + ([[10]].flatten : List UInt8).length ≤ 140737488355328 := by
    intro k hk
    have := prT_mono gs hk
    simp only [List.length_append, List.flatten_cons, List.flatten_nil, List.append_nil, List.length_cons, List.length_nil]
    omega
  have BK : Hid (∀ k, k < gs.length → (prT (gs.take k)).length + (dfT (gs.getD k fd)).length ≤ 140737488355328 ∧ (prT (gs.take k) ++ dfT (gs.getD k fd)).length + ([[10]].flatten : List UInt8).length ≤ 140737488355328) := bk
  clear hE0 hE1 hwr hT hb0 hlen hprne hgs hwf hsz hpm hx hx0 hT0 bk
  go_enter Tryd.func6, Tryd.ntmps6
  go_upto_region 2 with fail
  first | rw [hW] | skip
  first | rw [hV] | skip
  clear hW hV
  go_wp2_with fail
  clear c0
  generalize hbb : W0.heap.size = b at *
  go_loopw [9] (fun i wr => ∃ k : Nat, k ≤ gs.length ∧ i = .int .i64 k ∧ St5 W0 b (prT (gs.take k)) wr) (fun i _ => gs.length - (intOf i).toNat)
  case atStart => exact ⟨0, Nat.zero_le _, rfl, by rw [List.take_zero, prT_nil]; exact HS0.out⟩
  case round =>
    obtain ⟨k, hkn, rfl, hSr⟩ := hrel
    by_cases hlt : k < gs.length
    · obtain ⟨G, vs, rfl, _, hu, hfn⟩ := HX.out.at k hlt
      obtain ⟨bk1, bk2⟩ := BK.out k hlt
      have hus := prT_succ hlt
      have hdef := HD.out _ (getD_mem fd gs k hlt) vs hfn b
      have hone := hfn.one
      have hl11 := hfn.len
      generalize hgp : gs.getD k fd = P at *
      clear hfn
      have hne : vs ≠ [] := by intro e; rw [e] at hl11; cases hl11
      have hur : wr.rangeAt G (k * 11) vs := range_keep hu hne fun hlt => hSr.low.block _ hlt
      have hb5 := below_alloc wr (.cells #[.string ⟨#[]⟩, .slice none 0 0, .int .i64 0, .int .i64 0, .string ⟨#[]⟩, .string ⟨#[]⟩, .int .i64 0, .complex .f64 0 0, .slice none 0 0, .int .i64 0, .int .i64 0] 41)
      have hQ5 := Bk.new wr 41 #[.string ⟨#[]⟩, .slice none 0 0, .int .i64 0, .int .i64 0, .string ⟨#[]⟩, .string ⟨#[]⟩, .int .i64 0, .complex .f64 0 0, .slice none 0 0, .int .i64 0, .int .i64 0]
      have hcr : wr.heap.size ≠ b := by have := hSr.wr.lt; omega
      obtain ⟨y0, y1, y2, y3, y4, y5, y6, y7, y8, y9, y10, rfl⟩ := list11 hl11
      have HSr : Hid (St5 W0 b _ wr) := hSr
      have HU : Hid (prT (gs.take (k + 1)) = _) := hus
      have HB1 : Hid (_ ≤ 140737488355328) := bk1
      have HB2 : Hid (_ ≤ 140737488355328) := bk2
      have HCR : Hid (wr.heap.size ≠ b) := hcr
      have HB5 : Hid (Below wr.heap.size wr _) := hb5
      have HDF : Hid (∀ (l : List UInt8) (w : World), St5 W0 b l w → l.length + (dfT P).length ≤ 140737488355328 → Calls Tryd.prog 11 #[.pointer (some ⟨b, 0, none⟩), .agg #[y0, y1, y2, y3, y4, y5, y6, y7, y8, y9, y10]] w fun r w' => StE W0 b (l ++ dfT P) w r w') := hdef
      clear hu hSr hus bk1 bk2 hcr hb5 hgp hne hdef hl11
      go_wp2_with (first
        | refine wpList_loadN rfl 41 (.tmp 11) rfl G (k * 11) rfl [y0, y1, y2, y3, y4, y5, y6, y7, y8, y9, y10] _ hur Tryd.underFn Tryd.infoFn ?_
        | (refine wpList_storeN rfl 41 (.tmp 5) (.tmp 12) rfl wr.heap.size 0 [y0, y1, y2, y3, y4, y5, y6, y7, y8, y9, y10] rfl rfl hQ5 (Nat.le_refl 11) Tryd.infoFn hone ?_; intro w6 hQ6 ho6)
        | refine wpList_loadN rfl 41 (.tmp 5) rfl wr.heap.size 0 rfl [y0, y1, y2, y3, y4, y5, y6, y7, y8, y9, y10] _ (Bk.rng7 hQ6) Tryd.underFn Tryd.infoFn ?_)
      have hb6 := below_oth HB5.out ho6 (Nat.le_refl _)
      have HS6 : Hid (St5 W0 b _ w6) := HSr.out.up hb6
      clear hb6 hQ6 ho6 hQ5 hur
      refine (HDF.out _ w6 HS6.out HB1.out).mono ?_
      rintro r W7 ⟨rfl, hS, hK⟩
      have HS7 : Hid (St5 W0 b _ W7) := hS
      clear hS hK
      go_wp2_with fail
      refine (add_st HS7.out [[10]] _ rfl 1 rfl (by decide) HB2.out).mono ?_
      rintro r W8 ⟨rfl, hS, hK⟩
      have HS8 : Hid (St5 W0 b _ W8) := hS
      clear hS hK
      go_wp2_with fail
      go_roundw
      case rel =>
        refine ⟨k + 1, by omega, by go_num, ?_⟩
        rw [HU.out]
        have := HS8.out
        simpa using this
      case measure => simp [intOf]; omega
    · have hke : k = gs.length := by omega
      subst hke
      rw [List.take_length] at hSr
      have hst := string_w hSr.wr HNE.out
      have HL : Hid (Below W0.heap.size W0 wr) := hSr.low
      clear hSr
      go_wp2_with fail
      refine hst.mono ?_
      rintro r W3 ⟨rfl, hb⟩
      have HB3 : Hid (Below w.heap.size w W3) := HB0.out.trans ((HL.out.trans hb).mono HB0.out.size)
      clear hb
      go_wp2
      go_ret
      exact ⟨rfl, HB3.out⟩
end
end Go.Proofs.YtndgglhppoijnaaDoor
/-
  The walk of fathomlaw05.read: the program of a text, by the document; what numbers the reader takes.
-/
namespace Go.Proofs.YtndgglhppoijnaaDoor
open Go.RowKit
set_option maxRecDepth 100000

abbrev LW5 : Lm := ⟨max 32768 0, max 32768 0, max 32768 0⟩
theorem rd_back (l : List UInt8) (h : rdN.ok l = true) : txt (rdN.p l) (rdN.q l) = l := by
  have h1 : rdOk l = true := h
  show txt (rdP l) (rdQ l) = l
  unfold rdP rdQ
  rw [if_pos h1, if_pos h1]
  unfold rdOk at h1
  simp only [decide_eq_true_eq] at h1
  exact h1.2.2.2
theorem rd_small (p q : Int) (h : IsNu rdN p q) : p.natAbs ≤ 16777216 ∧ q.natAbs ≤ 16777216 := by
  have h1 : rdOk (txt p q) = true := h.ok
  have e1 : rdP (txt p q) = p := h.rp
  have e2 : rdQ (txt p q) = q := h.rq
  unfold rdP at e1
  unfold rdQ at e2
  rw [if_pos h1] at e1 e2
  unfold rdOk at h1
  simp only [decide_eq_true_eq] at h1
  rw [e1, e2] at h1
  exact ⟨h1.2.1, h1.2.2.1⟩

/-- What a law's read answers. -/
def rdV (l : List UInt8) (f B : Nat) (e : Ending) (w' : World) : Prop :=
  (∃ ms gs j ao c, l.length ≤ 32768 ∧ cut rdN l 0 = .ok ms ∧ progL (mf ms) LW5 f [] 0 = .ok gs j ∧ e = .returned (.tuple #[.agg #[.slice ao gs.length c], .bool true]) ∧ FlW w' (fun b => B ≤ b) ao gs) ∨
  ((∀ ms gs j, ¬ (l.length ≤ 32768 ∧ cut rdN l 0 = .ok ms ∧ progL (mf ms) LW5 f [] 0 = .ok gs j)) ∧ e = .returned (.tuple #[.agg #[.slice none 0 0], .bool false]))

/-- Which faults there are: none of them is nought. -/
theorem paV_rd {l : List UInt8} {f B : Nat} {w' : World} {ao : Option Addr} {n c : Nat} {y a : Int} (hf : ∀ ms, cut rdN l 0 = .ok ms → progL (mf ms) LW5 f [] 0 ≠ .out)
    (h : paV l 32768 32768 32768 32768 f B (.returned (.tuple #[.agg #[.slice ao n c], .agg #[.int .i64 y, .int .i64 a]])) w') : rdV l f B (.returned (.tuple #[.agg #[.slice ao n c], .bool (y == 0)])) w' := by
  have hne : ∀ {y1 a1 : Int}, y1 ≠ 0 → Ending.returned (.tuple #[.agg #[.slice ao n c], .agg #[.int .i64 y, .int .i64 a]]) = .returned (noneV y1 a1) → Ending.returned (.tuple #[.agg #[.slice ao n c], .bool (y == 0)]) = .returned (.tuple #[.agg #[.slice none 0 0], .bool false]) := by
    intro y1 a1 h1 e
    unfold noneV at e
    cases e
    have : (y == 0) = false := by simpa using h1
    rw [this]
  rcases paV_cases h hf with ⟨hl, h⟩ | ⟨hl, k, hc, h⟩ | ⟨hl, ms, gs, j, hc, hp, ao', c', h, hfl⟩ | ⟨hl, ms, y', k, hc, hq, h⟩
  · refine .inr ⟨fun ms gs j hh => ?_, hne (by decide) h⟩
    rw [cT_max] at hl
    omega
  · refine .inr ⟨fun ms gs j hh => ?_, hne (by decide) h⟩
    rw [hc] at hh
    cases hh.2.1
  · refine .inl ⟨ms, gs, j, ao', c', by rw [cT_max] at hl; omega, hc, hp, ?_, hfl⟩
    cases h
    rfl
  · refine .inr ⟨fun ms2 gs j hh => ?_, hne ?_ h⟩
    · rw [hc] at hh
      cases hh.2.1
      rw [hq] at hh
      cases hh.2.2
    · have := fk_prog (mf ms) LW5 (cut_row rdN _ _ _ hc).four f [] 0
      rw [hq] at this
      rcases this with h | ⟨h | h, _⟩ <;> (rw [h]; decide)

theorem rdV_keep {l : List UInt8} {f B B' : Nat} {e : Ending} {w w' : World} (h : rdV l f B e w) (hB : B' ≤ B) (hs : w.heap.size ≤ w'.heap.size) (hk : ∀ b, B ≤ b → b < w.heap.size → w'.heap[b]? = w.heap[b]?) : rdV l f B' e w' := by
  rcases h with ⟨ms, gs, j, ao, c, h1, h2, h3, h4, h5⟩ | h
  · exact .inl ⟨ms, gs, j, ao, c, h1, h2, h3, h4, (h5.keep hs hk).imp fun b hb _ => Nat.le_trans hB hb⟩
  · exact .inr h

set_option maxHeartbeats 4000000 in
theorem read5_any (ao : Option Addr) (cap : Nat) (l : List UInt8) (hcap : l.length ≤ cap) (w : World) (hT : Bd w ao l) (f : Nat) (hf : ∀ ms, cut rdN l 0 = .ok ms → progL (mf ms) LW5 f [] 0 ≠ .out) :
    Calls Tryd.prog 5 #[.slice ao l.length cap] w fun e w' => Below w.heap.size w w' ∧ rdV l f w.heap.size e w' := by
  have hb0 := below_alloc w (.cells #[.slice none 0 0] 26)
  have hR0 := Bk.new w 26 #[.slice none 0 0]
  generalize hW : w.alloc (.cells #[.slice none 0 0] 26) = W0 at *
  go_enter Tryd.func5, Tryd.ntmps5
  go_upto_region 1 with fail
  first | rw [hW] | skip
  clear hW
  go_wp2_with fail
  refine (wide_any W0).mono ?_
  rintro e w1 ⟨rfl, hb1⟩
  have hB1 := Below.thn hb0 hb1
  have hR1 := hR0.up hb1
  have hpar := rparse_all ao cap l hcap 32768 32768 32768 32768 (by decide) w1 (hT.up hB1) f hf
  clear hb0 hb1 hR0
  go_wp2_with fail
  refine hpar.mono ?_
  rintro e w2 ⟨hb2, hpa⟩
  obtain ⟨a2, n2, c2, y, aa, rfl⟩ := paV_shape hpa hf
  have hrd := paV_rd hf hpa
  have hR2 := hR1.up hb2
  have hB2 := Below.thn hB1 hb2
  have hR1s : w.heap.size < w1.heap.size := hR1.lt
  clear hpar hpa hR1 hB1
  have hb3 := below_two w2 (.cells #[.slice a2 n2 c2] 26) (.cells #[.int .i64 y, .int .i64 aa] 44)
  have hR3 := hR2.up hb3
  have hs1 := hR1s
  have hP3 := (Bk.new w2 26 #[.slice a2 n2 c2]).up (below_alloc _ (.cells #[.int .i64 y, .int .i64 aa] 44))
  have hF3 := Bk.newAt (w := w2.alloc (.cells #[.slice a2 n2 c2] 26)) (n := w2.heap.size + 1) 44 #[.int .i64 y, .int .i64 aa] (by simp)
  go_upto_region 2 with fail
  generalize hW4 : (w2.alloc (.cells #[.slice a2 n2 c2] 26)).alloc (.cells #[.int .i64 y, .int .i64 aa] 44) = W4 at *
  have p0 : W4.cell? ⟨w2.heap.size, 0, none⟩ = some (.slice a2 n2 c2) := hP3.cell 0
  have f0 : W4.cell? ⟨w2.heap.size + 1, 0, none⟩ = some (.int .i64 y) := hF3.cell 0
  have r0 : W4.cell? ⟨w.heap.size, 0, none⟩ = some (.slice none 0 0) := hR3.cell 0
  have r1 := hR3.frz 0
  have ho := (Oth.refl w.heap.size W4).set 0 (.slice a2 n2 c2)
  have q0 : (W4.setCell ⟨w.heap.size, 0, none⟩ (.slice a2 n2 c2)).drew.cell? ⟨w.heap.size, 0, none⟩ = some (.slice a2 n2 c2) := (hR3.set 0 (.slice a2 n2 c2)).cell 0
  have hend : Below w.heap.size w (W4.setCell ⟨w.heap.size, 0, none⟩ (.slice a2 n2 c2)).drew ∧ rdV l f w.heap.size (.returned (.tuple #[.agg #[.slice a2 n2 c2], .bool (y == 0)])) (W4.setCell ⟨w.heap.size, 0, none⟩ (.slice a2 n2 c2)).drew := by
    have hb4 := (below_oth (w := w) (Below.thn hB2 hb3) ho (Nat.le_refl _)).drew
    refine ⟨hb4, rdV_keep hrd (by omega) ?_ fun b hb hlt => ?_⟩
    · have := hb3.size
      have := ho.size
      show w2.heap.size ≤ (W4.setCell ⟨w.heap.size, 0, none⟩ (.slice a2 n2 c2)).heap.size
      omega
    · show (W4.setCell ⟨w.heap.size, 0, none⟩ (.slice a2 n2 c2)).heap[b]? = w2.heap[b]?
      rw [ho.block b (by omega), hb3.block b hlt]
  have g1 : (W4.setCell ⟨w.heap.size, 0, none⟩ (.slice a2 n2 c2)).cell? ⟨w2.heap.size + 1, 0, none⟩ = some (.int .i64 y) := (hF3.oth ho (by have := hb2.size; omega)).cell 0
  have HE : Hid _ := hend
  clear hend ho hW4 hrd hR2 hR3 hB2 hb3 hb2 hs1 hR1s hP3 hF3
  go_region
  all_goals go_wp2
  all_goals exact bodyPost_ret (v := .tuple #[.agg #[.slice a2 n2 c2], .bool (y == 0)]) (by simp [results, Tryd.results5, go_sem, q0]) rfl HE.out
end Go.Proofs.YtndgglhppoijnaaDoor
/-
  What is known of a program that was read; the walk of fathomlaw05.awake.
-/
namespace Go.Proofs.YtndgglhppoijnaaDoor
open Go.RowKit
set_option maxRecDepth 100000

theorem prog_ne (M : Nat → Mk) (L : Lm) : ∀ f acc k gs j, progL M L f acc k = .ok gs j → gs ≠ [] := by
  intro f
  induction f with
  | zero => intro acc k gs j h; cases h
  | succ f ih =>
    intro acc k gs j h
    rw [progL] at h
    obtain ⟨g, k1, h1, h2⟩ := bind_eq.1 h
    split at h2
    · cases h2
      simp
    · exact ih _ _ _ _ h2

/-- What is known of a program that was read from a text of the wide limits. -/
structure PrgOk (gs : List Fn1) : Prop where
  ne : gs ≠ []
  num : gs.length ≤ 32769
  wf : ∀ g ∈ gs, WfF IsNm (IsNu rdN) g
  sz : ∀ g ∈ gs, szE g.body ≤ 32769
  pms : ∀ g ∈ gs, g.pms.length ≤ 32769
  len : (prT gs).length ≤ 140737488355328
  blen : ∀ g ∈ gs, (shE g.body).length ≤ 140737488355328
theorem prgOk {l : List UInt8} {ms : List Mk} {f : Nat} {gs : List Fn1} {j : Nat} (hl : l.length ≤ 32768) (hff : 12 * (l.length + 1) + 9 ≤ f) (hc : cut rdN l 0 = .ok ms) (hp : progL (mf ms) LW5 f [] 0 = .ok gs j) : PrgOk gs := by
  have hrow := cut_row rdN _ _ _ hc
  have hfew := cut_few _ _ _ hc
  have hjn : 0 + 1 ≤ j ∧ j < ms.length := by
    have := gd_prog (mf ms) LW5 hrow.ends f [] 0 hrow.pos (by omega)
    rw [hp] at this
    exact this
  obtain ⟨-, hgl, hpj⟩ := prog_len _ _ _ _ _ _ _ hp
  simp only [List.length_nil] at hgl
  have hsz : ∀ g ∈ gs, szE g.body ≤ 32769 := fun g hg => by
    have := sz_prog (mf ms) LW5 _ _ _ _ _ hp (by simp) g hg
    omega
  have hpm : ∀ g ∈ gs, g.pms.length ≤ 32769 := fun g hg => by
    have := hpj (by simp) g hg
    omega
  have hwl : ∀ g ∈ gs, WfF (fun x => x.length ≤ 32768) (fun p q => (txt p q).length ≤ 32768) g := fun g hg => by
    have h := wf_len rd_back hc hp g hg
    exact al_prog (mf ms) LW5 (fun k _ => Nat.le_trans (mf_len hc k) hl) (fun k h => by rw [mf_txt rd_back hc k h]; exact Nat.le_trans (mf_len hc k) hl) f [] 0 (by simp) gs j hp g hg
  have hdf : ∀ g ∈ gs, (dfT g).length + 1 ≤ 3223773000 := fun g hg => by
    have a := len_def (hwl g hg)
    have b := hsz g hg
    have c := hpm g hg
    omega
  have hlen := len_prog gs hdf
  refine ⟨prog_ne _ _ _ _ _ _ _ hp, by omega, wf_prog rd_back hc hp, hsz, hpm, by omega, fun g hg => ?_⟩
  have a := len_E _ g.body (Nat.le_refl _) (hwl g hg).body
  have b := hsz g hg
  omega

theorem showProgram_ok {w : World} (hT : Tab w) {A : Nat → Prop} {gs : List Fn1} (h : PrgOk gs) {ao : Option Addr} {c : Nat} (hx : FlW w A ao gs) :
    Calls Tryd.prog 6 #[.agg #[.slice ao gs.length c]] w fun r w' => r = .returned (.string (bs (prT gs))) ∧ Below w.heap.size w w' :=
  showProgram_w rd_small hT gs h.ne (by have := h.num; omega) h.wf (fun g hg => by have := h.sz g hg; omega) (fun g hg => by have := h.pms g hg; omega) hx h.len
theorem showExpr_ok {w : World} (hT : Tab w) {A : Nat → Prop} {gs : List Fn1} (h : PrgOk gs) {g : Fn1} (hg : g ∈ gs) (es : List Value) (hx : ExW w A g.body es) :
    Calls Tryd.prog 8 #[.agg es.toArray] w fun r w' => r = .returned (.string (bs (shE g.body))) ∧ Below w.heap.size w w' :=
  showExpr_w rd_small hT g.body (h.wf g hg).body (by have := h.sz g hg; omega) (shE_ne (fun _ h => h.ne) (fun _ _ h => h.ne) _ (h.wf g hg).body) es hx (h.blen g hg)

def tC5 : List UInt8 := [102, 40, 120, 32, 78, 44, 121, 32, 76, 41, 58, 78, 61, 40, 40, 120, 41, 43, 49, 41, 42, 50, 59]
def msC5 : List Mk := match cut rdN tC5 0 with | .ok ms => ms | .bad _ => []
def gC5 : Fn1 := ⟨[102], [⟨[120], 1, 2⟩, ⟨[121], 3, 6⟩], 1, .mk 10 [] [] 0 0 0 [.mk 8 [] [] 0 0 0 [.mk 6 [120] [] 0 0 0 [] 15, .mk 1 [] [] 0 1 0 [] 18] 17, .mk 1 [] [] 0 2 0 [] 21] 20, 0⟩
theorem cutC5 : cut rdN tC5 0 = .ok msC5 := by kernel_rfl
theorem progC5 : progL (mf msC5) LW5 400 [] 0 = .ok [gC5] 21 := by kernel_rfl
theorem prC5 : prT [gC5] = [102, 40, 120, 32, 78, 44, 32, 121, 32, 76, 41, 58, 32, 78, 32, 61, 32, 40, 120, 32, 43, 32, 49, 41, 32, 42, 32, 50, 59, 10] := by kernel_rfl
theorem shC5 : shE gC5.body = [40, 120, 32, 43, 32, 49, 41, 32, 42, 32, 50] := by kernel_rfl
theorem rdC5 {B : Nat} {e : Ending} {w' : World} (h : rdV tC5 400 B e w') : ∃ ao c, e = .returned (.tuple #[.agg #[.slice ao 1 c], .bool true]) ∧ FlW w' (fun b => B ≤ b) ao [gC5] := by
  rcases h with ⟨ms, gs, j, ao, c, h1, h2, h3, h4, h5⟩ | ⟨h, _⟩
  · rw [cutC5] at h2
    cases h2
    rw [progC5] at h3
    cases h3
    exact ⟨ao, c, h4, h5⟩
  · exact absurd ⟨by decide, cutC5, progC5⟩ (h _ _ _)
theorem okC5 : PrgOk [gC5] := prgOk (l := tC5) (f := 400) (by decide) (by decide) cutC5 progC5

set_option maxHeartbeats 4000000 in
theorem awake5_any (w : World) (hT : Tab w) :
    Calls Tryd.prog 4 #[] w fun e w' => e = .returned (.bool true) ∧ Below w.heap.size w w' := by
  have hcs := Lib.run_convert_bytes_const (P := Tryd.prog) w 22 5 #[.int .u8 102, .int .u8 40, .int .u8 120, .int .u8 32, .int .u8 78, .int .u8 44, .int .u8 121, .int .u8 32, .int .u8 76, .int .u8 41, .int .u8 58, .int .u8 78, .int .u8 61, .int .u8 40, .int .u8 40, .int .u8 120, .int .u8 41, .int .u8 43, .int .u8 49, .int .u8 41, .int .u8 42, .int .u8 50, .int .u8 59] 23 23 (by kernel_rfl) (by kernel_rfl)
  have hbd := Bd.new w tC5 5 (23, 24)
  have hb1 := below_alloc w (.cells #[.int .u8 102, .int .u8 40, .int .u8 120, .int .u8 32, .int .u8 78, .int .u8 44, .int .u8 121, .int .u8 32, .int .u8 76, .int .u8 41, .int .u8 58, .int .u8 78, .int .u8 61, .int .u8 40, .int .u8 40, .int .u8 120, .int .u8 41, .int .u8 43, .int .u8 49, .int .u8 41, .int .u8 42, .int .u8 50, .int .u8 59] 5 (23, 24))
  have m1 := read5_any (some ⟨w.heap.size, 0, none⟩) 23 tC5 (by decide) _ hbd 400 (fun ms e => by rw [cutC5] at e; cases e; rw [progC5]; simp)
  go_enter Tryd.func4, Tryd.ntmps4
  go_wp2_with fail
  refine m1.mono ?_
  rintro e w2 ⟨hb2, hrd⟩
  obtain ⟨ao, c, rfl, hfl⟩ := rdC5 hrd
  have hB2 := Below.thn hb1 hb2
  clear m1 hcs hbd hrd hb2 hb1
  have hb3 := below_alloc w2 (.cells #[.slice ao 1 c] 26)
  have hP3 := Bk.new w2 26 #[.slice ao 1 c]
  have hB3 := Below.thn hB2 hb3
  generalize hW : w2.alloc (.cells #[.slice ao 1 c] 26) = W3 at *
  have p0 : W3.cell? ⟨w2.heap.size, 0, none⟩ = some (.slice ao 1 c) := hP3.cell 0
  have m2 := showProgram_ok (tab_keep hT hB3) okC5 (c := c) (hfl.up hb3)
  rw [prC5] at m2
  have HF : Hid (FlW W3 _ ao [gC5]) := hfl.up hb3
  have HT3 : Hid (Tab W3) := tab_keep hT hB3
  have HB3 : Hid (Below w.heap.size w W3) := hB3
  have HP3 : Hid (Bk W3 w2.heap.size 26 [.slice ao 1 c]) := hP3
  clear hfl hB2 hB3 hb3 hP3 hT
  go_wp2_with fail
  first | rw [hW] | skip
  clear hW
  refine m2.mono ?_
  rintro e W5 ⟨rfl, hb5⟩
  obtain ⟨G, es, rfl, _, hr, hx⟩ := (HF.out.up hb5).body 0 (by decide)
  have m3 := showExpr_ok (tab_keep HT3.out hb5) okC5 (g := gC5) (List.mem_singleton.2 rfl) es hx
  rw [shC5] at m3
  have p5 : W5.cell? ⟨w2.heap.size, 0, none⟩ = some (.slice (some ⟨G, 0, none⟩) 1 c) := (HP3.out.up hb5).cell 0
  obtain ⟨x0, x1, x2, x3, x4, x5, x6, rfl⟩ := list7 hx.len
  have HB5 : Hid (Below w.heap.size w W5) := Below.thn HB3.out hb5
  have d0 : W5.cell? ⟨G, 3, none⟩ = some x0 := hr 0 _ rfl
  have d1 : W5.cell? ⟨G, 4, none⟩ = some x1 := hr 1 _ rfl
  have d2 : W5.cell? ⟨G, 5, none⟩ = some x2 := hr 2 _ rfl
  have d3 : W5.cell? ⟨G, 6, none⟩ = some x3 := hr 3 _ rfl
  have d4 : W5.cell? ⟨G, 7, none⟩ = some x4 := hr 4 _ rfl
  have d5 : W5.cell? ⟨G, 8, none⟩ = some x5 := hr 5 _ rfl
  have d6 : W5.cell? ⟨G, 9, none⟩ = some x6 := hr 6 _ rfl
  clear hx hb5 m2 p0
  have q1 : ((bs [102, 40, 120, 32, 78, 44, 32, 121, 32, 76, 41, 58, 32, 78, 32, 61, 32, 40, 120, 32, 43, 32, 49, 41, 32, 42, 32, 50, 59, 10]).toList == [102, 40, 120, 32, 78, 44, 32, 121, 32, 76, 41, 58, 32, 78, 32, 61, 32, 40, 120, 32, 43, 32, 49, 41, 32, 42, 32, 50, 59, 10]) = true := by kernel_rfl
  go_wp2_with fail
  refine m3.mono ?_
  rintro e W6 ⟨rfl, hb6⟩
  have HB6 : Hid (Below w.heap.size w W6) := Below.thn HB5.out hb6
  clear hb6 m3 hr p5 d0 d1 d2 d3 d4 d5 d6
  have q2 : ((bs [40, 120, 32, 43, 32, 49, 41, 32, 42, 32, 50]).toList == [40, 120, 32, 43, 32, 49, 41, 32, 42, 32, 50]) = true := by kernel_rfl
  go_wp2
  go_ret
  exact ⟨rfl, HB6.out⟩
end Go.Proofs.YtndgglhppoijnaaDoor
