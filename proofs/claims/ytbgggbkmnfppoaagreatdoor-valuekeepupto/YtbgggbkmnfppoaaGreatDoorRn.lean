/-
  What the document's reader reads, as lists of bytes.
-/
import Derived.Test.YtbgggbkmnfppoaaGreatDoorWh
import Derived.Test.YtbgggbkmnfppoaaGreatDoorDg
namespace Go.Proofs.YtbgggbkmnfppoaaGreatDoor
open Go.RowKit
open Go.Lib
set_option maxRecDepth 100000

/-- The whole number at the front of a text, and how many bytes it takes. -/
def wX (l : List UInt8) : Int := if l.head? = some 45 then wV (-1) (l.drop 1) else wV 1 (l.drop 0)
def wN (i : Nat) (l : List UInt8) : Nat := if lenW l = 0 then 0 else lenW l + i
def wL (l : List UInt8) : Nat := if l.head? = some 45 then wN 1 (l.drop 1) else wN 0 (l.drop 0)

theorem wK_cast (i : Nat) (l : List UInt8) : wK i l = (wN i l : Nat) := by
  unfold wK wN
  split
  · rfl
  · omega

theorem whole_bs (l : List UInt8) (hl : l.length ≤ 281474976710656) (w : World) :
    Calls Tryz.prog 54 #[.string (bs l)] w fun e w' => e = .returned (.tuple #[.int .i64 (wX l), .int .i64 (wL l : Nat)]) ∧ w' = w := by
  have hs := bs_size l
  cases l with
  | nil => exact whole_nil (bs []) (by rw [hs]; rfl) w
  | cons b r =>
    have h0 : 0 < (bs (b :: r)).size := by rw [hs]; simp
    have hb : (bs (b :: r))[0] = b := by simp [bs, ByteArray.getElem_eq_getElem_data]
    by_cases h45 : b = 45
    · have := whole_neg (bs (b :: r)) (by rw [hs]; exact hl) h0 (by rw [hb, h45]; rfl) _ rfl w
      rw [bs_list, wK_cast] at this
      unfold wX wL
      rw [if_pos (by rw [h45]; rfl), if_pos (by rw [h45]; rfl)]
      exact this
    · have hne : ¬ (b :: r).head? = some 45 := by simpa using h45
      have := whole_pos (bs (b :: r)) (by rw [hs]; exact hl) h0 (by
        rw [hb, beq_eq_false_iff_ne]
        intro e
        apply h45
        apply UInt8.toNat.inj
        show b.toNat = 45
        omega) _ rfl w
      rw [bs_list, wK_cast] at this
      unfold wX wL
      rw [if_neg hne, if_neg hne]
      exact this

theorem lenW_le (l : List UInt8) : lenW l ≤ l.length := by
  induction l with
  | nil => simp [lenW]
  | cons b r ih =>
    simp only [lenW]
    split
    · simp; omega
    · simp

theorem wL_le (l : List UInt8) : wL l ≤ l.length := by
  unfold wL wN
  have h0 := lenW_le (l.drop 0)
  have h1 := lenW_le (l.drop 1)
  rw [List.drop_zero] at *
  rw [List.length_drop] at h1
  repeat' split
  all_goals omega

theorem wX_abs (l : List UInt8) : (wX l).natAbs ≤ 16777217 := by
  have h0 := accW_bound (l.drop 0) 0 (by omega) (by omega)
  have h1 := accW_bound (l.drop 1) 0 (by omega) (by omega)
  unfold wX wV
  repeat' split
  all_goals omega

theorem dig_val {b : UInt8} {x : Nat} (h : digitVal b = some x) : digB b = true ∧ (b.toNat : Int) - 48 = x := by
  unfold digitVal at h
  split at h
  · rename_i hb
    simp only [Option.some.injEq] at h
    refine ⟨by unfold digB; simp; omega, by omega⟩
  · cases h

theorem decFrom_ge (d : List UInt8) : ∀ acc v, decFrom acc d = some v → acc ≤ v := by
  induction d with
  | nil => intro acc v h; simp only [decFrom, Option.some.injEq] at h; omega
  | cons b r ih =>
    intro acc v h
    simp only [decFrom] at h
    cases hb : digitVal b with
    | none => rw [hb] at h; cases h
    | some x => rw [hb] at h; have := ih _ _ h; omega

theorem read_digits (d r : List UInt8) : ∀ acc v, decFrom acc d = some v → v ≤ 16777217 → accW acc (d ++ r) = accW v r ∧ lenW (d ++ r) = d.length + lenW r := by
  induction d with
  | nil => intro acc v h _; simp only [decFrom, Option.some.injEq] at h; subst h; simp
  | cons b d ih =>
    intro acc v h hv
    simp only [decFrom] at h
    cases hb : digitVal b with
    | none => rw [hb] at h; cases h
    | some x =>
      rw [hb] at h
      obtain ⟨hd, hx⟩ := dig_val hb
      have hge := decFrom_ge _ _ _ h
      have hge2 : acc * 10 + x ≤ v := hge
      have := ih _ _ h hv
      simp only [List.cons_append, accW, lenW, List.length_cons]
      rw [if_pos hd, if_pos hd, hx]
      have e : min (10 * (acc : Int) + x) 16777217 = ((acc * 10 + x : Nat) : Int) := by omega
      rw [e]
      exact ⟨this.1, by rw [this.2]; omega⟩

/-- A text that opens with no digit. -/
def NoDig (r : List UInt8) : Prop := (∀ v, accW v r = v) ∧ lenW r = 0
theorem noDig_nil : NoDig [] := ⟨fun _ => rfl, rfl⟩
theorem noDig_cons {b : UInt8} {r : List UInt8} (h : digB b = false) : NoDig (b :: r) := ⟨fun v => by simp only [accW]; rw [h]; rfl, by simp only [lenW]; rw [h]; rfl⟩

theorem wX_itoa {n : Int} (h : n.natAbs ≤ 16777216) {r : List UInt8} (hr : NoDig r) : wX (itoa n ++ r) = n ∧ wL (itoa n ++ r) = (itoa n).length := by
  have key : ∀ u, u ≤ 16777216 → accW 0 (decDigits u ++ r) = u ∧ lenW (decDigits u ++ r) = (decDigits u).length ∧ (decDigits u).length ≠ 0 := by
    intro u hu
    have hd := decFrom_digits u 0
    rw [Nat.zero_mul, Nat.zero_add] at hd
    have := read_digits (decDigits u) r 0 u hd (by omega)
    obtain ⟨b, t, e, _⟩ := decDigits_cons u
    refine ⟨by rw [show ((0 : Nat) : Int) = 0 from rfl] at this; rw [this.1, hr.1], by rw [this.2, hr.2]; rfl, by rw [e]; simp⟩
  unfold itoa
  by_cases hn : n < 0
  · rw [if_pos hn]
    obtain ⟨k1, k2, k3⟩ := key n.natAbs h
    have e : (45 :: decDigits n.natAbs ++ r).drop 1 = decDigits n.natAbs ++ r := rfl
    have hh : (45 :: decDigits n.natAbs ++ r).head? = some 45 := rfl
    have k4 : ¬ lenW (decDigits n.natAbs ++ r) = 0 := by omega
    refine ⟨?_, ?_⟩
    · unfold wX wV
      rw [if_pos hh, e, if_neg k4, k1]
      omega
    · unfold wL wN
      rw [if_pos hh, e, if_neg k4, k2]
      simp
  · rw [if_neg hn]
    obtain ⟨k1, k2, k3⟩ := key n.toNat (by omega)
    obtain ⟨b, t, e, hb⟩ := decDigits_cons n.toNat
    have hne : ¬ (decDigits n.toNat ++ r).head? = some 45 := by
      rw [e]
      simp only [List.cons_append, List.head?_cons, Option.some.injEq]
      intro hc
      unfold isDig at hb
      rw [hc] at hb
      simp at hb
    have k4 : ¬ lenW (decDigits n.toNat ++ r) = 0 := by omega
    refine ⟨?_, ?_⟩
    · unfold wX wV
      rw [if_neg hne, List.drop_zero, if_neg k4, k1]
      omega
    · unfold wL wN
      rw [if_neg hne, List.drop_zero, if_neg k4, k2]
      rfl

/-- What is read of a text: its two parts. -/
def rst (l : List UInt8) : List UInt8 := l.drop (wL l)
def rdX (l : List UInt8) : Int := if rst l = [105] then 0 else wX l
def rdY (l : List UInt8) : Int :=
  if rst l = [105] then wX l else if rst l = [] then 0 else wX (if (rst l).head? = some 43 then (rst l).drop 1 else rst l)
/-- Is it the text of what is read of it? -/
def rdOk (l : List UInt8) : Bool := decide (wL l ≠ 0 ∧ (rdX l).natAbs ≤ 16777216 ∧ (rdY l).natAbs ≤ 16777216 ∧ txt (rdX l) (rdY l) = l)

theorem rd_txt (p q : Int) (hp : p.natAbs ≤ 16777216) (hq : q.natAbs ≤ 16777216) : rdX (txt p q) = p ∧ rdY (txt p q) = q ∧ rdOk (txt p q) = true := by
  have lp := (itoa_len hp).1
  have lq := (itoa_len hq).1
  have key : rdX (txt p q) = p ∧ rdY (txt p q) = q ∧ wL (txt p q) ≠ 0 := by
    unfold txt
    by_cases h0 : q = 0
    · rw [if_pos h0]
      have w := wX_itoa hp noDig_nil
      rw [List.append_nil] at w
      have er : rst (itoa p) = [] := by unfold rst; rw [w.2]; simp
      refine ⟨?_, ?_, by omega⟩
      · unfold rdX; rw [er, if_neg (by simp), w.1]
      · unfold rdY; rw [er, if_neg (by simp), if_pos rfl, h0]
    · rw [if_neg h0]
      by_cases h1 : p = 0
      · rw [if_pos h1]
        have w := wX_itoa (r := [105]) hq (noDig_cons (by decide))
        have er : rst (itoa q ++ [105]) = [105] := by unfold rst; rw [w.2]; simp
        refine ⟨?_, ?_, by omega⟩
        · unfold rdX; rw [er, if_pos rfl, h1]
        · unfold rdY; rw [er, if_pos rfl, w.1]
      · rw [if_neg h1]
        have wq := wX_itoa (r := [105]) hq (noDig_cons (by decide))
        by_cases h2 : 0 < q
        · rw [if_pos h2]
          have w := wX_itoa (r := 43 :: (itoa q ++ [105])) hp (noDig_cons (by decide))
          have e : itoa p ++ [43] ++ (itoa q ++ [105]) = itoa p ++ 43 :: (itoa q ++ [105]) := by simp
          rw [e]
          have er : rst (itoa p ++ 43 :: (itoa q ++ [105])) = 43 :: (itoa q ++ [105]) := by unfold rst; rw [w.2]; simp
          have hne : ¬ 43 :: (itoa q ++ [105]) = [105] := by simp
          refine ⟨?_, ?_, by omega⟩
          · unfold rdX; rw [er, if_neg hne, w.1]
          · unfold rdY; rw [er, if_neg hne, if_neg (by simp), if_pos (by rfl)]
            exact wq.1
        · rw [if_neg h2]
          have eq : itoa q = 45 :: decDigits q.natAbs := by unfold itoa; rw [if_pos (by omega)]
          have w := wX_itoa (r := itoa q ++ [105]) hp (by rw [eq]; exact noDig_cons (by decide))
          have er : rst (itoa p ++ (itoa q ++ [105])) = itoa q ++ [105] := by unfold rst; rw [w.2]; simp
          have hne : ¬ itoa q ++ [105] = [105] := by rw [eq]; simp
          refine ⟨?_, ?_, by omega⟩
          · unfold rdX; rw [er, if_neg hne, w.1]
          · unfold rdY; rw [er, if_neg hne, if_neg (by simp), if_neg (by rw [eq]; simp)]
            exact wq.1
  refine ⟨key.1, key.2.1, ?_⟩
  unfold rdOk
  rw [key.1, key.2.1]
  exact decide_eq_true ⟨key.2.2, hp, hq, rfl⟩
end Go.Proofs.YtbgggbkmnfppoaaGreatDoor
