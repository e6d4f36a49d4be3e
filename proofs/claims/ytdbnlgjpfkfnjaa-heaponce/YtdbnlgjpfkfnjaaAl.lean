/-
  What follows of the answers of sums and products: they hang on no grouping, and a product of a sum is the sum of the products.
-/
import Derived.Test.YtdbnlgjpfkfnjaaWb
namespace Go.Proofs.Ytdbnlgjpfkfnjaa
open Go.RowKit
open Ieee

theorem op_congr {X Y X' Y' : Int → Int → Int → Int → Int} {a b c d a' b' c' d' : Nat} (hv : valid4 a b c d = valid4 a' b' c' d')
    (hx : X (nb a) (nb b) (nb c) (nb d) = X' (nb a') (nb b') (nb c') (nb d')) (hy : Y (nb a) (nb b) (nb c) (nb d) = Y' (nb a') (nb b') (nb c') (nb d')) :
    opE X Y a b c d = opE X' Y' a' b' c' d' ∧ opR X Y a b c d = opR X' Y' a' b' c' d' ∧ opI X Y a b c d = opI X' Y' a' b' c' d' := by
  have e : opE X Y a b c d = opE X' Y' a' b' c' d' := by unfold opE; rw [hv, hx, hy]
  exact ⟨e, by unfold opR; rw [e, hx], by unfold opI; rw [e, hy]⟩

theorem op_res {X Y : Int → Int → Int → Int → Int} {a b c d : Nat} (h : opE X Y a b c d = 0) :
    vp (opR X Y a b c d) = true ∧ vp (opI X Y a b c d) = true ∧ nb (opR X Y a b c d) = X (nb a) (nb b) (nb c) (nb d) ∧ nb (opI X Y a b c d) = Y (nb a) (nb b) (nb c) (nb d) := by
  obtain ⟨h1, h2⟩ := okC_iff.1 (opE_zero h).2
  unfold opR opI
  rw [if_pos h, if_pos h]
  exact ⟨vp_fl _ h1, vp_fl _ h2, nb_fl _ (by omega), nb_fl _ (by omega)⟩

theorem valid4_mk {a b c d : Nat} (h1 : vp a = true) (h2 : vp b = true) (h3 : vp c = true) (h4 : vp d = true) : valid4 a b c d = true := by
  unfold valid4; rw [h1, h2, h3, h4]; rfl

theorem add_three {a b c d e f : Nat} (h1 : opE addX addY a b c d = 0) (h2 : opE addX addY c d e f = 0) :
    opE addX addY (opR addX addY a b c d) (opI addX addY a b c d) e f = opE addX addY a b (opR addX addY c d e f) (opI addX addY c d e f) ∧
    opR addX addY (opR addX addY a b c d) (opI addX addY a b c d) e f = opR addX addY a b (opR addX addY c d e f) (opI addX addY c d e f) ∧
    opI addX addY (opR addX addY a b c d) (opI addX addY a b c d) e f = opI addX addY a b (opR addX addY c d e f) (opI addX addY c d e f) := by
  obtain ⟨r1, r2, r3, r4⟩ := op_res h1
  obtain ⟨s1, s2, s3, s4⟩ := op_res h2
  obtain ⟨v1, v2, v3, v4⟩ := valid4_parts (opE_zero h1).1
  obtain ⟨_, _, v5, v6⟩ := valid4_parts (opE_zero h2).1
  apply op_congr
  · rw [valid4_mk r1 r2 v5 v6, valid4_mk v1 v2 s1 s2]
  · rw [r3, s3]; simp only [addX]; omega
  · rw [r4, s4]; simp only [addY]; omega

theorem mul_three {a b c d e f : Nat} (h1 : opE mulX mulY a b c d = 0) (h2 : opE mulX mulY c d e f = 0) :
    opE mulX mulY (opR mulX mulY a b c d) (opI mulX mulY a b c d) e f = opE mulX mulY a b (opR mulX mulY c d e f) (opI mulX mulY c d e f) ∧
    opR mulX mulY (opR mulX mulY a b c d) (opI mulX mulY a b c d) e f = opR mulX mulY a b (opR mulX mulY c d e f) (opI mulX mulY c d e f) ∧
    opI mulX mulY (opR mulX mulY a b c d) (opI mulX mulY a b c d) e f = opI mulX mulY a b (opR mulX mulY c d e f) (opI mulX mulY c d e f) := by
  obtain ⟨r1, r2, r3, r4⟩ := op_res h1
  obtain ⟨s1, s2, s3, s4⟩ := op_res h2
  obtain ⟨v1, v2, v3, v4⟩ := valid4_parts (opE_zero h1).1
  obtain ⟨_, _, v5, v6⟩ := valid4_parts (opE_zero h2).1
  apply op_congr
  · rw [valid4_mk r1 r2 v5 v6, valid4_mk v1 v2 s1 s2]
  · rw [r3, r4, s3, s4]; simp only [mulX, mulY, Int.sub_mul, Int.mul_sub, Int.add_mul, Int.mul_add, Int.mul_assoc]; omega
  · rw [r3, r4, s3, s4]; simp only [mulX, mulY, Int.sub_mul, Int.mul_sub, Int.add_mul, Int.mul_add, Int.mul_assoc]; omega

theorem mul_of_sum {a b c d e f : Nat} (h1 : opE mulX mulY a b c d = 0) (h2 : opE mulX mulY a b e f = 0)
    (h3 : opE addX addY (opR mulX mulY a b c d) (opI mulX mulY a b c d) (opR mulX mulY a b e f) (opI mulX mulY a b e f) = 0) (h4 : opE addX addY c d e f = 0) :
    opE mulX mulY a b (opR addX addY c d e f) (opI addX addY c d e f) = 0 ∧
    opR mulX mulY a b (opR addX addY c d e f) (opI addX addY c d e f) = opR addX addY (opR mulX mulY a b c d) (opI mulX mulY a b c d) (opR mulX mulY a b e f) (opI mulX mulY a b e f) ∧
    opI mulX mulY a b (opR addX addY c d e f) (opI addX addY c d e f) = opI addX addY (opR mulX mulY a b c d) (opI mulX mulY a b c d) (opR mulX mulY a b e f) (opI mulX mulY a b e f) := by
  obtain ⟨r1, r2, r3, r4⟩ := op_res h1
  obtain ⟨s1, s2, s3, s4⟩ := op_res h2
  obtain ⟨t1, t2, t3, t4⟩ := op_res h4
  obtain ⟨v1, v2, v3, v4⟩ := valid4_parts (opE_zero h1).1
  have := op_congr (X := mulX) (Y := mulY) (X' := addX) (Y' := addY) (a := a) (b := b) (c := opR addX addY c d e f) (d := opI addX addY c d e f)
    (a' := opR mulX mulY a b c d) (b' := opI mulX mulY a b c d) (c' := opR mulX mulY a b e f) (d' := opI mulX mulY a b e f)
    (by rw [valid4_mk r1 r2 s1 s2, valid4_mk v1 v2 t1 t2])
    (by rw [r3, s3, t3, t4]; simp only [mulX, addX, addY, Int.mul_add]; omega)
    (by rw [r4, s4, t3, t4]; simp only [mulY, addX, addY, Int.mul_add]; omega)
  rw [h3] at this
  exact this
end Go.Proofs.Ytdbnlgjpfkfnjaa
