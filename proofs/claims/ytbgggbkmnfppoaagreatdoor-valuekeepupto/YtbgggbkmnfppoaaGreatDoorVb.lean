/-
  A line of values taken apart, plainly: two ways that come to the same, and a line of values' texts.
-/
import Derived.Test.YtbgggbkmnfppoaaGreatDoorVa
import Derived.Lib.TrimByte
import Derived.Lib.Bytealg
namespace Go.Proofs.YtbgggbkmnfppoaaGreatDoor
open Go.Lib

/-- Where the first value's text can only end. -/
def tokE (s : List UInt8) : Nat :=
  if hasPrefix s [91] then (if 0 ≤ indexByte s 93 then (indexByte s 93).toNat + 1 else s.length)
  else if 0 ≤ indexByte s 32 then (indexByte s 32).toNat else s.length

theorem idx_cons_ne {b c : UInt8} {l : List UInt8} (h : b ≠ c) : indexByte (b :: l) c = if indexByte l c = -1 then -1 else indexByte l c + 1 := by
  simp only [indexByte]
  rw [if_neg (by simpa using h)]
  simp

theorem idx_cons_eq {c : UInt8} {l : List UInt8} : indexByte (c :: l) c = 0 := by simp [indexByte]

theorem idx_lt (l : List UInt8) (c : UInt8) : indexByte l c < l.length ∨ indexByte l c = -1 := by
  induction l with
  | nil => right; rfl
  | cons b r ih =>
    by_cases h : b = c
    · rw [h, idx_cons_eq]; left; simp
    · rw [idx_cons_ne h]
      split
      · right; rfl
      · left; simp; omega

/-- What an index says. -/
theorem idx_split {c : UInt8} : ∀ {l : List UInt8}, 0 ≤ indexByte l c → ∃ a t, l = a ++ c :: t ∧ (∀ b ∈ a, b ≠ c) ∧ indexByte l c = a.length := by
  intro l
  induction l with
  | nil => intro h; simp [indexByte] at h
  | cons b r ih =>
    intro h
    by_cases hb : b = c
    · exact ⟨[], r, by rw [hb]; rfl, by simp, by rw [hb, idx_cons_eq]; rfl⟩
    · rw [idx_cons_ne hb] at h ⊢
      split at h
      · omega
      · rename_i h1
        have := indexByte_ge r c
        obtain ⟨a, t, e, ha, hi⟩ := ih (by omega)
        refine ⟨b :: a, t, by rw [e]; rfl, ?_, ?_⟩
        · intro x hx
          rcases List.mem_cons.1 hx with e | e
          · rw [e]; exact hb
          · exact ha x e
        · rw [if_neg h1, hi]; simp

theorem idx_none {c : UInt8} : ∀ {l : List UInt8}, ¬ 0 ≤ indexByte l c → ∀ b ∈ l, b ≠ c := by
  intro l
  induction l with
  | nil => simp
  | cons b r ih =>
    intro h x hx
    by_cases hb : b = c
    · rw [hb, idx_cons_eq] at h; omega
    · rw [idx_cons_ne hb] at h
      have := indexByte_ge r c
      have h1 : indexByte r c = -1 := by
        apply Decidable.byContradiction
        intro hc
        rw [if_neg hc] at h
        omega
      rcases List.mem_cons.1 hx with e | e
      · rw [e]; exact hb
      · exact ih (by omega) x e

theorem idx_app {c : UInt8} : ∀ (a t : List UInt8), (∀ b ∈ a, b ≠ c) → indexByte (a ++ c :: t) c = a.length := by
  intro a t
  induction a with
  | nil => intro _; exact idx_cons_eq
  | cons b r ih =>
    intro h
    rw [List.cons_append, idx_cons_ne (h b (by simp)), ih (fun x hx => h x (by simp [hx]))]
    rw [if_neg (by omega)]
    simp

theorem idx_no {c : UInt8} : ∀ (a : List UInt8), (∀ b ∈ a, b ≠ c) → indexByte a c = -1 := by
  intro a
  induction a with
  | nil => intro _; rfl
  | cons b r ih =>
    intro h
    rw [idx_cons_ne (h b (by simp)), ih (fun x hx => h x (by simp [hx]))]
    rfl

/-- Blanks at the front left out. -/
def skp (l : List UInt8) : List UInt8 := trimLeftB l 32

theorem skp_nil : skp [] = [] := rfl
theorem skp_blank (r : List UInt8) : skp (32 :: r) = skp r := by unfold skp trimLeftB; rw [List.dropWhile_cons]; rfl
theorem skp_other {b : UInt8} (h : b ≠ 32) (r : List UInt8) : skp (b :: r) = b :: r := by unfold skp trimLeftB; rw [List.dropWhile_cons, if_neg (by simpa using h)]
theorem skp_len (l : List UInt8) : (skp l).length ≤ l.length := by
  induction l with
  | nil => simp [skp_nil]
  | cons b r ih =>
    by_cases h : b = 32
    · rw [h, skp_blank]; simp; omega
    · rw [skp_other h]; exact Nat.le_refl _
theorem skp_head {l : List UInt8} {b : UInt8} {r : List UInt8} (h : skp l = b :: r) : b ≠ 32 := by
  induction l with
  | nil => rw [skp_nil] at h; simp at h
  | cons c t ih =>
    by_cases hc : c = 32
    · rw [hc, skp_blank] at h; exact ih h
    · rw [skp_other hc] at h; simp at h; rw [← h.1]; exact hc
theorem skp_skp (l : List UInt8) : skp (skp l) = skp l := by
  cases h : skp l with
  | nil => rfl
  | cons b r => exact skp_other (skp_head h) r

theorem tokE_le (s : List UInt8) : tokE s ≤ s.length := by
  unfold tokE
  split
  · split
    · rcases idx_lt s 93 with h | h <;> omega
    · exact Nat.le_refl _
  · split
    · rcases idx_lt s 32 with h | h <;> omega
    · exact Nat.le_refl _

theorem tokE_pos {b : UInt8} (h : b ≠ 32) (r : List UInt8) : 0 < tokE (b :: r) := by
  unfold tokE
  split
  · split
    · omega
    · simp
  · split
    · rename_i h1
      rw [idx_cons_ne h] at h1 ⊢
      have := indexByte_ge r 32
      split
      · rename_i h2; rw [if_pos h2] at h1; omega
      · omega
    · simp

/-- Does something other than a blank stand there? -/
def stays (l : List UInt8) : Bool := match l with
  | [] => false
  | b :: _ => b != 32

/-- The values of a line. -/
def spl (rd : List UInt8 → Option Zn) (l : List UInt8) : Option (List Vl) :=
  match _h : skp l with
  | [] => some []
  | b :: r =>
    if stays ((b :: r).drop (tokE (b :: r))) then none else
    match pvV rd ((b :: r).take (tokE (b :: r))) with
    | none => none
    | some v => (spl rd ((b :: r).drop (tokE (b :: r)))).map (v :: ·)
termination_by l.length
decreasing_by
  have h1 := skp_len l
  have h2 := tokE_pos (skp_head _h) r
  have h3 := tokE_le (b :: r)
  rw [_h] at h1
  simp only [List.length_drop]
  omega

theorem spl_nil {rd : List UInt8 → Option Zn} {l : List UInt8} (h : skp l = []) : spl rd l = some [] := by
  unfold spl
  split
  · rfl
  · rename_i h1; rw [h] at h1; simp at h1

theorem spl_cons {rd : List UInt8 → Option Zn} {l : List UInt8} {s : List UInt8} (h : skp l = s) (hne : s ≠ []) : spl rd l =
    if stays (s.drop (tokE s)) then none else
    match pvV rd (s.take (tokE s)) with
    | none => none
    | some v => (spl rd (s.drop (tokE s))).map (v :: ·) := by
  rw [spl]
  split
  · rename_i h1; rw [h] at h1; exact absurd h1 hne
  · rename_i b r h1; rw [h] at h1; rw [h1]

theorem spl_skp (rd : List UInt8 → Option Zn) (l : List UInt8) : spl rd (skp l) = spl rd l := by
  by_cases h : skp l = []
  · rw [spl_nil h, spl_nil (by rw [skp_skp]; exact h)]
  · rw [spl_cons rfl h, spl_cons (skp_skp l) h]

theorem spl_blank (rd : List UInt8 → Option Zn) (r : List UInt8) : spl rd (32 :: r) = spl rd r := by
  rw [← spl_skp, skp_blank, spl_skp]

/-- A value's text ahead of a blank, or of nothing, ends where it ends. -/
theorem tokE_txV {v : Vl} (hv : okV v) (r : List UInt8) (hr : stays r = false) : tokE (txV v ++ r) = (txV v).length ∧ ∃ b t, txV v = b :: t ∧ b ≠ 32 := by
  have key : ∀ s : List UInt8, (∀ b ∈ s, b ≠ 32) → hasPrefix (s ++ r) [91] = false → tokE (s ++ r) = s.length := by
    intro s hs hp
    unfold tokE
    rw [hp]
    simp only [Bool.false_eq_true, if_false]
    cases r with
    | nil =>
      rw [List.append_nil, idx_no s hs]; rfl
    | cons b t =>
      have hb : b = 32 := by simpa [stays] using hr
      rw [hb, idx_app s t hs]
      rw [if_pos (by omega)]; omega
  have pf : ∀ (b : UInt8) (t : List UInt8), b ≠ 91 → hasPrefix (b :: t) [91] = false := by
    intro b t h
    unfold hasPrefix
    simp [List.isPrefixOf]
    exact fun e => h e.symm
  cases v with
  | n z =>
    obtain ⟨b, t, e, h1, h2, _⟩ := txZ_cons z
    refine ⟨key _ (txZ_no z 32 (.inl rfl)) ?_, b, t, e, h1⟩
    simp only [txV]
    rw [e, List.cons_append]; exact pf _ _ h2
  | b c =>
    cases c
    · refine ⟨key tFalse (by decide) ?_, 102, [97, 108, 115, 101], rfl, by decide⟩
      exact pf 102 ([97, 108, 115, 101] ++ r) (by decide)
    · refine ⟨key tTrue (by decide) ?_, 116, [114, 117, 101], rfl, by decide⟩
      exact pf 116 ([114, 117, 101] ++ r) (by decide)
  | l zs =>
    refine ⟨?_, 91, inner zs ++ [93], rfl, by decide⟩
    unfold tokE
    have hp : hasPrefix (txV (.l zs) ++ r) [91] = true := by
      unfold hasPrefix txV
      simp [List.isPrefixOf]
    rw [hp]
    simp only [if_true]
    have e : txV (.l zs) ++ r = (91 :: inner zs) ++ 93 :: r := by simp [txV]
    have hn : ∀ b ∈ (91 :: inner zs), b ≠ (93 : UInt8) := by
      intro b hb
      rcases List.mem_cons.1 hb with h | h
      · rw [h]; decide
      · exact inner_no zs 93 (.inr rfl) b h
    rw [e, idx_app _ r hn, if_pos (by omega)]
    simp [txV]

theorem spl_txV {rd : List UInt8 → Option Zn} (H : Rdr rd) {v : Vl} (hv : okV v) (r : List UInt8) (hr : stays r = false) : spl rd (txV v ++ r) = (spl rd r).map (v :: ·) := by
  obtain ⟨h1, b, t, e, hb⟩ := tokE_txV hv r hr
  have hs : skp (txV v ++ r) = txV v ++ r := by rw [e, List.cons_append]; exact skp_other hb _
  rw [spl_cons hs (by rw [e]; simp), h1]
  rw [List.drop_left, List.take_left, hr, pv_txV H hv]
  rfl

/-! ## The other way: byte by byte. -/

/-- How far the first piece goes. -/
def rtk : Bool → List UInt8 → Nat
  | _, [] => 0
  | lst, b :: r => if lst || b != 32 then rtk (if b == 93 then false else lst) r + 1 else 0

theorem rtk_le (l : List UInt8) : ∀ b, rtk b l ≤ l.length := by
  induction l with
  | nil => intro b; simp [rtk]
  | cons c r ih =>
    intro b
    simp only [rtk]
    split
    · have := ih (if c == 93 then false else b)
      simp only [List.length_cons]; omega
    · simp

def rspl (rd : List UInt8 → Option Zn) (l : List UInt8) : Option (List Vl) :=
  match l with
  | [] => some []
  | b :: r =>
    if _hb : b = 32 then rspl rd r else
    match pvV rd ((b :: r).take (rtk (b == 91) (b :: r))) with
    | none => none
    | some v => (rspl rd ((b :: r).drop (rtk (b == 91) (b :: r)))).map (v :: ·)
termination_by l.length
decreasing_by
  · simp
  · have h1 : 0 < rtk (b == 91) (b :: r) := by
      simp only [rtk]
      rw [if_pos (by simp [_hb])]; omega
    simp only [List.length_drop, List.length_cons]
    omega

theorem rspl_nil (rd : List UInt8 → Option Zn) : rspl rd [] = some [] := by unfold rspl; rfl
theorem rspl_blank (rd : List UInt8 → Option Zn) (r : List UInt8) : rspl rd (32 :: r) = rspl rd r := by
  rw [rspl]; simp
theorem rspl_cons (rd : List UInt8 → Option Zn) {b : UInt8} (hb : b ≠ 32) (r : List UInt8) : rspl rd (b :: r) =
    match pvV rd ((b :: r).take (rtk (b == 91) (b :: r))) with
    | none => none
    | some v => (rspl rd ((b :: r).drop (rtk (b == 91) (b :: r)))).map (v :: ·) := by
  rw [rspl, dif_neg hb]

theorem rtk_word : ∀ (a t : List UInt8), (∀ b ∈ a, b ≠ 32) → stays t = false → rtk false (a ++ t) = a.length := by
  intro a
  induction a with
  | nil =>
    intro t _ ht
    cases t with
    | nil => rfl
    | cons b r =>
      have hb : b = 32 := by simpa [stays] using ht
      simp [rtk, hb]
  | cons b r ih =>
    intro t h ht
    have hb := h b (by simp)
    simp only [List.cons_append, rtk]
    rw [if_pos (by simp [hb])]
    have := ih t (fun x hx => h x (by simp [hx])) ht
    rw [show (if (b == 93) = true then false else false) = false by split <;> rfl, this]
    rfl

theorem rtk_list : ∀ (a t : List UInt8), (∀ b ∈ a, b ≠ 93) → rtk true (a ++ 93 :: t) = a.length + 1 + rtk false t := by
  intro a
  induction a with
  | nil =>
    intro t _
    simp [rtk]; omega
  | cons b r ih =>
    intro t h
    have hb := h b (by simp)
    simp only [List.cons_append, rtk]
    rw [if_pos (by simp), if_neg (by simpa using hb), ih t (fun x hx => h x (by simp [hx]))]
    simp; omega

theorem rtk_open : ∀ (a : List UInt8), (∀ b ∈ a, b ≠ 93) → rtk true a = a.length := by
  intro a
  induction a with
  | nil => intro _; rfl
  | cons b r ih =>
    intro h
    have hb := h b (by simp)
    simp only [rtk]
    rw [if_pos (by simp), if_neg (by simpa using hb), ih (fun x hx => h x (by simp [hx]))]
    rfl

/-- Behind a list's text nothing can stand but a blank. -/
theorem pv_tail {rd : List UInt8 → Option Zn} (H : Rdr rd) (a t : List UInt8) (ha : ∀ b ∈ a, b ≠ 93) (ht : t ≠ []) : pvV rd (91 :: (a ++ 93 :: t)) = none := by
  cases hp : pvV rd (91 :: (a ++ 93 :: t)) with
  | none => rfl
  | some v =>
    exfalso
    obtain ⟨hv, e⟩ := pv_of H hp
    cases v with
    | n z =>
      obtain ⟨b, r, e1, _, h2, _⟩ := txZ_cons z
      simp only [txV] at e
      rw [e1] at e
      simp at e
      exact h2 e.1
    | b c => cases c <;> simp [txV, tTrue, tFalse] at e
    | l zs =>
      simp only [txV, List.cons.injEq, true_and] at e
      have h1 := idx_app a t ha
      have h2 := idx_app (inner zs) [] (inner_no zs 93 (.inr rfl))
      rw [e, h1] at h2
      have h3 : a.length = (inner zs).length := by omega
      have h4 := congrArg List.length e
      simp at h4
      have : t.length = 0 := by omega
      exact ht (List.length_eq_zero_iff.1 this)

theorem rspl_spl {rd : List UInt8 → Option Zn} (H : Rdr rd) : ∀ (n : Nat) (l : List UInt8), l.length ≤ n → rspl rd l = spl rd l := by
  intro n
  induction n with
  | zero =>
    intro l h
    have : l = [] := List.length_eq_zero_iff.1 (by omega)
    rw [this, rspl_nil, spl_nil rfl]
  | succ n ih =>
    intro l h
    cases l with
    | nil => rw [rspl_nil, spl_nil rfl]
    | cons b r =>
      by_cases hb : b = 32
      · rw [hb, rspl_blank, spl_blank, ih r (by simpa using h)]
      · rw [rspl_cons rd hb, spl_cons (skp_other hb r) (by simp)]
        have same : rtk (b == 91) (b :: r) = tokE (b :: r) → stays ((b :: r).drop (tokE (b :: r))) = false →
            (match pvV rd ((b :: r).take (rtk (b == 91) (b :: r))) with
            | none => none
            | some v => (rspl rd ((b :: r).drop (rtk (b == 91) (b :: r)))).map (v :: ·)) =
            (if stays ((b :: r).drop (tokE (b :: r))) then none else
            match pvV rd ((b :: r).take (tokE (b :: r))) with
            | none => none
            | some v => (spl rd ((b :: r).drop (tokE (b :: r)))).map (v :: ·)) := by
          intro h1 h2
          have h3 := tokE_pos hb r
          rw [h1, h2, ih _ (by simp only [List.length_drop]; omega)]
          rfl
        by_cases h91 : b = 91
        · have hp : hasPrefix (b :: r) [91] = true := by unfold hasPrefix; simp [List.isPrefixOf, h91]
          by_cases hi : 0 ≤ indexByte (b :: r) 93
          · obtain ⟨a, t, e, ha, hx⟩ := idx_split hi
            have hk : tokE (b :: r) = a.length + 1 := by
              unfold tokE
              rw [hp, if_pos rfl, if_pos hi, hx]; omega
            have hr : rtk (b == 91) (b :: r) = a.length + 1 + rtk false t := by
              rw [show (b == 91) = true by simpa using h91, e, rtk_list a t ha]
            have hd : (b :: r).drop (tokE (b :: r)) = t := by
              rw [hk, e]
              rw [show a ++ 93 :: t = (a ++ [93]) ++ t by simp]
              rw [List.drop_left' (by simp)]
            cases hst : stays t with
            | false =>
              refine same ?_ (by rw [hd]; exact hst)
              have h0 := rtk_word [] t (by simp) hst
              rw [hr, hk]
              simp at h0
              omega
            | true =>
              rw [hd, hst]
              simp only [if_true]
              cases t with
              | nil => simp [stays] at hst
              | cons c u =>
                have hc : c ≠ 32 := by simpa [stays] using hst
                have hm : rtk false (c :: u) = rtk (if c == 93 then false else false) u + 1 := by
                  simp only [rtk]
                  rw [if_pos (by simp [hc])]
                have h5 : pvV rd ((b :: r).take (rtk (b == 91) (b :: r))) = none := by
                  rw [hr, hm, e]
                  cases a with
                  | nil => simp at e; rw [h91] at e; simp at e
                  | cons a0 a1 =>
                    have e0 : a0 = 91 := by simp at e; rw [← e.1]; exact h91
                    have : List.take ((a0 :: a1).length + 1 + (rtk (if (c == 93) = true then false else false) u + 1)) ((a0 :: a1) ++ 93 :: c :: u) = 91 :: (a1 ++ 93 :: (c :: u.take (rtk (if (c == 93) = true then false else false) u))) := by
                      rw [List.take_append, List.take_of_length_le (by simp only [List.length_cons]; omega), e0, Nat.add_assoc, Nat.add_sub_cancel_left, Nat.add_comm 1]
                      rfl
                    rw [this]
                    exact pv_tail H a1 _ (fun x hx => ha x (by simp [hx])) (by simp)
                rw [h5]
          · have hn := idx_none hi
            have hk : tokE (b :: r) = (b :: r).length := by
              unfold tokE
              rw [hp, if_pos rfl, if_neg hi]
            refine same ?_ ?_
            · rw [show (b == 91) = true by simpa using h91, rtk_open _ hn, hk]
            · rw [hk, List.drop_length]; rfl
        · have hp : hasPrefix (b :: r) [91] = false := by
            unfold hasPrefix
            simp [List.isPrefixOf]
            exact fun e => h91 e.symm
          have hb91 : (b == 91) = false := by simpa using h91
          by_cases hi : 0 ≤ indexByte (b :: r) 32
          · obtain ⟨a, t, e, ha, hx⟩ := idx_split hi
            have hk : tokE (b :: r) = a.length := by
              unfold tokE
              rw [hp]
              simp only [Bool.false_eq_true, if_false]
              rw [if_pos hi, hx]; omega
            refine same ?_ ?_
            · rw [hb91, hk, e, rtk_word a _ ha (by simp [stays])]
            · rw [hk, e, List.drop_left]; simp [stays]
          · have hn := idx_none hi
            have hk : tokE (b :: r) = (b :: r).length := by
              unfold tokE
              rw [hp]
              simp only [Bool.false_eq_true, if_false]
              rw [if_neg hi]
            refine same ?_ ?_
            · have := rtk_word (b :: r) [] hn (by rfl)
              rw [List.append_nil] at this
              rw [hb91, hk, this]
            · rw [hk, List.drop_length]; rfl
end Go.Proofs.YtbgggbkmnfppoaaGreatDoor
