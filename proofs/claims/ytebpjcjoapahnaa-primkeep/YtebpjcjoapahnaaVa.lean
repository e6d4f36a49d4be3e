/-
  Values and their texts, plainly: what is written is read back, and what is read has the text that was read.
-/
import Derived.Test.YtebpjcjoapahnaaTx
namespace Go.Proofs.Ytebpjcjoapahnaa
open Go.Lib

/-- A number by its two parts. -/
abbrev Zn := Int × Int
def okZ (z : Zn) : Prop := z.1.natAbs ≤ 16777216 ∧ z.2.natAbs ≤ 16777216
def txZ (z : Zn) : List UInt8 := txt z.1 z.2

/-- The bytes that a number's text may have. -/
def numB (b : UInt8) : Prop := isDig b ∨ b = 43 ∨ b = 45 ∨ b = 105

theorem itoa_numB (n : Int) : ∀ b ∈ itoa n, numB b := by
  intro b hb
  unfold itoa at hb
  split at hb
  · rcases List.mem_cons.1 hb with h | h
    · exact .inr (.inr (.inl h))
    · exact .inl (decDigits_dig _ b h)
  · exact .inl (decDigits_dig _ b hb)

theorem txZ_numB (z : Zn) : ∀ b ∈ txZ z, numB b := by
  intro b hb
  unfold txZ txt at hb
  have hi : ∀ c : UInt8, c ∈ [(105 : UInt8)] → numB c := fun c h => .inr (.inr (.inr (List.mem_singleton.1 h)))
  have hp : ∀ c : UInt8, c ∈ [(43 : UInt8)] → numB c := fun c h => .inr (.inl (List.mem_singleton.1 h))
  split at hb
  · exact itoa_numB _ b hb
  · split at hb
    · rcases List.mem_append.1 hb with h | h
      · exact itoa_numB _ b h
      · exact hi b h
    · split at hb
      · rcases List.mem_append.1 hb with h | h
        · rcases List.mem_append.1 h with h | h
          · exact itoa_numB _ b h
          · exact hp b h
        · rcases List.mem_append.1 h with h | h
          · exact itoa_numB _ b h
          · exact hi b h
      · rcases List.mem_append.1 hb with h | h
        · exact itoa_numB _ b h
        · rcases List.mem_append.1 h with h | h
          · exact itoa_numB _ b h
          · exact hi b h

theorem numB_ne {b : UInt8} (h : numB b) : b ≠ 32 ∧ b ≠ 91 ∧ b ≠ 93 ∧ b ≠ 116 ∧ b ≠ 102 := by
  rcases h with ⟨h1, h2⟩ | h | h | h
  · refine ⟨?_, ?_, ?_, ?_, ?_⟩ <;> intro e <;> rw [e] at h1 h2 <;> simp at h1 h2
  all_goals rw [h]; decide

theorem itoa_ne (n : Int) : itoa n ≠ [] := by
  unfold itoa
  split
  · simp
  · obtain ⟨b, r, e, _⟩ := decDigits_cons n.toNat
    rw [e]; simp

theorem txZ_ne (z : Zn) : txZ z ≠ [] := by
  unfold txZ txt
  have h1 := itoa_ne z.1
  have h2 := itoa_ne z.2
  split
  · exact h1
  · split
    · simp
    · split
      · simp
      · simp [h1]

theorem txZ_cons (z : Zn) : ∃ b r, txZ z = b :: r ∧ b ≠ 32 ∧ b ≠ 91 ∧ b ≠ 93 ∧ b ≠ 116 ∧ b ≠ 102 := by
  cases h : txZ z with
  | nil => exact absurd h (txZ_ne z)
  | cons b r => exact ⟨b, r, rfl, numB_ne (txZ_numB z b (by rw [h]; simp))⟩

theorem txZ_no (z : Zn) (c : UInt8) (hc : c = 32 ∨ c = 91 ∨ c = 93) : ∀ b ∈ txZ z, b ≠ c := by
  intro b hb
  have := numB_ne (txZ_numB z b hb)
  rcases hc with h | h | h <;> rw [h]
  · exact this.1
  · exact this.2.1
  · exact this.2.2.1

theorem txZ_len {z : Zn} (h : okZ z) : (txZ z).length ≤ 20 := by
  have h1 := itoa_len h.1
  have h2 := itoa_len h.2
  unfold txZ txt
  split
  · omega
  · split
    · simp; omega
    · split
      · simp; omega
      · simp; omega

/-- Texts, one blank between each two. -/
def jnT : List (List UInt8) → List UInt8
  | [] => []
  | [x] => x
  | x :: y :: r => x ++ 32 :: jnT (y :: r)

/-- The pieces between blanks. -/
def splitB : List UInt8 → List (List UInt8)
  | [] => [[]]
  | b :: r => if b = 32 then [] :: splitB r else
    match splitB r with
    | [] => [[b]]
    | x :: xs => (b :: x) :: xs

theorem splitB_ne (l : List UInt8) : splitB l ≠ [] := by
  cases l with
  | nil => simp [splitB]
  | cons b r =>
    simp only [splitB]
    split
    · simp
    · split <;> simp

theorem jnT_cons (x : List UInt8) {xs : List (List UInt8)} (h : xs ≠ []) : jnT (x :: xs) = x ++ 32 :: jnT xs := by
  cases xs with
  | nil => exact absurd rfl h
  | cons y r => rfl

theorem jn_splitB (l : List UInt8) : jnT (splitB l) = l := by
  induction l with
  | nil => rfl
  | cons b r ih =>
    simp only [splitB]
    split
    · rename_i h
      rw [jnT_cons _ (splitB_ne r), ih, h]; rfl
    · have hne := splitB_ne r
      cases hs : splitB r with
      | nil => exact absurd hs hne
      | cons x xs =>
        rw [hs] at ih
        cases xs with
        | nil => simp only [jnT] at ih ⊢; rw [ih]
        | cons y ys => simp only [jnT] at ih ⊢; rw [List.cons_append, ih]

/-- A piece without blanks, ahead of a blank and more, or alone. -/
theorem splitB_head (x : List UInt8) (hx : ∀ b ∈ x, b ≠ 32) (r : List UInt8) : splitB (x ++ 32 :: r) = x :: splitB r := by
  induction x with
  | nil => simp [splitB]
  | cons b t ih =>
    have hb : b ≠ 32 := hx b (by simp)
    have := ih (fun c hc => hx c (by simp [hc]))
    simp only [List.cons_append, splitB]
    rw [if_neg hb, this]

theorem splitB_one (x : List UInt8) (hx : ∀ b ∈ x, b ≠ 32) : splitB x = [x] := by
  induction x with
  | nil => rfl
  | cons b t ih =>
    have hb : b ≠ 32 := hx b (by simp)
    have := ih (fun c hc => hx c (by simp [hc]))
    simp only [splitB]
    rw [if_neg hb, this]

theorem splitB_jn (xs : List (List UInt8)) (hne : xs ≠ []) (hb : ∀ x ∈ xs, ∀ b ∈ x, b ≠ 32) : splitB (jnT xs) = xs := by
  induction xs with
  | nil => exact absurd rfl hne
  | cons x r ih =>
    cases r with
    | nil => exact splitB_one x (hb x (by simp))
    | cons y ys =>
      rw [jnT_cons x (by simp), splitB_head x (hb x (by simp)), ih (by simp) (fun z hz => hb z (by simp [hz]))]

/-- What reads numbers: just the texts that numbers have. -/
structure Rdr (rd : List UInt8 → Option Zn) : Prop where
  tx : ∀ z, okZ z → rd (txZ z) = some z
  of : ∀ l z, rd l = some z → okZ z ∧ txZ z = l

/-- Numbers out of pieces. -/
def plE (rd : List UInt8 → Option Zn) : List (List UInt8) → Option (List Zn)
  | [] => some []
  | x :: r => match rd x with
    | none => none
    | some z => (plE rd r).map (z :: ·)

theorem plE_of {rd : List UInt8 → Option Zn} (H : Rdr rd) : ∀ {xs : List (List UInt8)} {zs : List Zn}, plE rd xs = some zs → (∀ z ∈ zs, okZ z) ∧ zs.map txZ = xs := by
  intro xs
  induction xs with
  | nil => intro zs h; simp only [plE, Option.some.injEq] at h; rw [← h]; simp
  | cons x r ih =>
    intro zs h
    simp only [plE] at h
    cases hz : rd x with
    | none => rw [hz] at h; simp at h
    | some z =>
      rw [hz] at h
      cases hr : plE rd r with
      | none => rw [hr] at h; simp at h
      | some ys =>
        rw [hr] at h
        simp only [Option.map_some, Option.some.injEq] at h
        obtain ⟨h1, h2⟩ := ih hr
        obtain ⟨h3, h4⟩ := H.of x z hz
        rw [← h]
        refine ⟨?_, ?_⟩
        · intro y hy
          rcases List.mem_cons.1 hy with e | e
          · rw [e]; exact h3
          · exact h1 y e
        · rw [List.map_cons, h4, h2]

theorem plE_tx {rd : List UInt8 → Option Zn} (H : Rdr rd) : ∀ {zs : List Zn}, (∀ z ∈ zs, okZ z) → plE rd (zs.map txZ) = some zs := by
  intro zs
  induction zs with
  | nil => intro _; rfl
  | cons z r ih =>
    intro h
    simp only [List.map_cons, plE]
    rw [H.tx z (h z (by simp)), ih (fun y hy => h y (by simp [hy]))]
    rfl

/-- A value. -/
inductive Vl where
  | n (z : Zn)
  | b (r : Bool)
  | l (zs : List Zn)

def okV : Vl → Prop
  | .n z => okZ z
  | .b _ => True
  | .l zs => ∀ z ∈ zs, okZ z

def tTrue : List UInt8 := [116, 114, 117, 101]
def tFalse : List UInt8 := [102, 97, 108, 115, 101]
def inner (zs : List Zn) : List UInt8 := jnT (zs.map txZ)

/-- The text of a value. -/
def txV : Vl → List UInt8
  | .n z => txZ z
  | .b r => if r then tTrue else tFalse
  | .l zs => 91 :: (inner zs ++ [93])

/-- The elements of a list's text without its brackets. -/
def elems (rd : List UInt8 → Option Zn) (l : List UInt8) : Option (List Zn) := if l = [] then some [] else plE rd (splitB l)

/-- A list's text behind its opening bracket. -/
def plV (rd : List UInt8 → Option Zn) (r : List UInt8) : Option Vl := if hasSuffix r [93] then (elems rd (trimSuffix r [93])).map .l else none

/-- The value of a text. -/
def pvV (rd : List UInt8 → Option Zn) (l : List UInt8) : Option Vl :=
  if l = tTrue then some (.b true) else if l = tFalse then some (.b false) else
  match l with
  | 91 :: r => plV rd r
  | l => (rd l).map .n

theorem inner_nb (zs : List Zn) : ∀ x ∈ zs.map txZ, ∀ b ∈ x, b ≠ 32 := by
  intro x hx
  obtain ⟨z, _, rfl⟩ := List.mem_map.1 hx
  exact txZ_no z 32 (.inl rfl)

theorem jnT_mem {b : UInt8} : ∀ {xs : List (List UInt8)}, b ∈ jnT xs → b = 32 ∨ ∃ x ∈ xs, b ∈ x := by
  intro xs
  induction xs with
  | nil => intro h; simp [jnT] at h
  | cons x r ih =>
    intro h
    cases r with
    | nil => exact .inr ⟨x, by simp, h⟩
    | cons y ys =>
      rw [jnT_cons x (by simp)] at h
      rcases List.mem_append.1 h with h | h
      · exact .inr ⟨x, by simp, h⟩
      · rcases List.mem_cons.1 h with h | h
        · exact .inl h
        · rcases ih h with h | ⟨t, ht, hb⟩
          · exact .inl h
          · exact .inr ⟨t, by simp [List.mem_cons.1 ht], hb⟩

/-- No bracket stands between the brackets of a list's text. -/
theorem inner_no (zs : List Zn) (c : UInt8) (hc : c = 91 ∨ c = 93) : ∀ b ∈ inner zs, b ≠ c := by
  intro b hb
  rcases jnT_mem hb with h | ⟨x, hx, h⟩
  · rw [h]; rcases hc with e | e <;> rw [e] <;> decide
  · obtain ⟨z, _, rfl⟩ := List.mem_map.1 hx
    exact txZ_no z c (.inr hc) b h

theorem inner_nil {zs : List Zn} (h : inner zs = []) : zs = [] := by
  cases zs with
  | nil => rfl
  | cons z r =>
    exfalso
    unfold inner at h
    cases r with
    | nil => exact txZ_ne z h
    | cons y ys =>
      rw [List.map_cons, jnT_cons _ (by simp)] at h
      simp at h

theorem elems_inner {rd : List UInt8 → Option Zn} (H : Rdr rd) {zs : List Zn} (h : ∀ z ∈ zs, okZ z) : elems rd (inner zs) = some zs := by
  unfold elems
  split
  · rename_i e
    rw [inner_nil e]
  · rename_i e
    have hne : zs.map txZ ≠ [] := by
      intro hc
      apply e
      unfold inner; rw [hc]; rfl
    unfold inner
    rw [splitB_jn _ hne (inner_nb zs), plE_tx H h]

theorem elems_of {rd : List UInt8 → Option Zn} (H : Rdr rd) {l : List UInt8} {zs : List Zn} (h : elems rd l = some zs) : (∀ z ∈ zs, okZ z) ∧ inner zs = l := by
  unfold elems at h
  split at h
  · rename_i e
    simp only [Option.some.injEq] at h
    rw [← h, e]
    exact ⟨by simp, rfl⟩
  · obtain ⟨h1, h2⟩ := plE_of H h
    refine ⟨h1, ?_⟩
    unfold inner
    rw [h2, jn_splitB]

theorem suff_app (body : List UInt8) : hasSuffix (body ++ [93]) [93] = true ∧ trimSuffix (body ++ [93]) [93] = body := by
  have h : hasSuffix (body ++ [93]) [93] = true := by
    unfold hasSuffix
    simp
  refine ⟨h, ?_⟩
  unfold trimSuffix
  rw [h]
  simp

theorem suff_of {r : List UInt8} (h : hasSuffix r [93] = true) : trimSuffix r [93] ++ [93] = r := by
  unfold trimSuffix
  rw [h]
  unfold hasSuffix at h
  simp at h
  simp
  obtain ⟨t, rfl⟩ := h
  simp

theorem pv_num {rd : List UInt8 → Option Zn} {l : List UInt8} {b : UInt8} {r : List UInt8} (e : l = b :: r) (h1 : b ≠ 91) (h2 : b ≠ 116) (h3 : b ≠ 102) : pvV rd l = (rd l).map .n := by
  rw [e]
  unfold pvV tTrue tFalse
  rw [if_neg (by intro h; simp at h; exact h2 h.1), if_neg (by intro h; simp at h; exact h3 h.1)]
  split
  · rename_i h; simp at h; exact absurd h.1 h1
  · rfl

theorem pv_txV {rd : List UInt8 → Option Zn} (H : Rdr rd) {v : Vl} (h : okV v) : pvV rd (txV v) = some v := by
  cases v with
  | n z =>
    obtain ⟨b, r, e, h1, h2, h3, h4, h5⟩ := txZ_cons z
    simp only [txV]
    rw [pv_num e h2 h4 h5, H.tx z h]; rfl
  | b r => cases r <;> rfl
  | l zs =>
    simp only [txV]
    unfold pvV tTrue tFalse
    rw [if_neg (by simp), if_neg (by simp)]
    simp only [plV]
    rw [(suff_app _).1, (suff_app _).2, if_pos rfl, elems_inner H h]; rfl

theorem pv_of {rd : List UInt8 → Option Zn} (H : Rdr rd) {l : List UInt8} {v : Vl} (h : pvV rd l = some v) : okV v ∧ txV v = l := by
  unfold pvV at h
  split at h
  · rename_i e; simp at h; rw [← h, e]; exact ⟨trivial, rfl⟩
  · split at h
    · rename_i e; simp at h; rw [← h, e]; exact ⟨trivial, rfl⟩
    · split at h
      · unfold plV at h
        split at h
        · rename_i e
          cases he : elems rd (trimSuffix _ [93]) with
          | none => rw [he] at h; simp at h
          | some zs =>
            rw [he] at h
            simp at h
            obtain ⟨h1, h2⟩ := elems_of H he
            rw [← h]
            refine ⟨h1, ?_⟩
            simp only [txV]
            rw [h2, suff_of e]
        · simp at h
      · cases hz : rd _ with
        | none => rw [hz] at h; simp at h
        | some z =>
          rw [hz] at h
          simp at h
          rw [← h]
          exact H.of _ _ hz

/-- A text of no value is read as none. -/
theorem pv_none {rd : List UInt8 → Option Zn} (H : Rdr rd) {l : List UInt8} (h : pvV rd l = none) (v : Vl) (hv : okV v) : txV v ≠ l := by
  intro e
  rw [← e, pv_txV H hv] at h
  simp at h

theorem txV_inj {rd : List UInt8 → Option Zn} (H : Rdr rd) {v u : Vl} (hv : okV v) (hu : okV u) (h : txV v = txV u) : v = u := by
  have h1 := pv_txV H hv
  rw [h, pv_txV H hu] at h1
  simpa using h1.symm
end Go.Proofs.Ytebpjcjoapahnaa
