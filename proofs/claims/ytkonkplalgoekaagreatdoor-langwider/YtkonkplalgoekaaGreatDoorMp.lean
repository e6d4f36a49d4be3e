/-
  The marks of a text, plainly: what cutting a text comes to, and what follows of it: two texts one behind the other, faults, cover, other gaps. No dump.
-/
namespace Go.Proofs.YtkonkplalgoekaaGreatDoor

/-- A mark, plainly: its kind, its bytes, the parts of its number, its place. -/
structure Mk where
  kind : Int
  text : List UInt8
  p : Int
  q : Int
  at_ : Nat

/-- What cutting a text comes to. -/
inductive Cu where
  | ok (ms : List Mk)
  | bad (k : Nat)

def isBl (c : UInt8) : Bool := c == 9 || c == 10 || c == 13 || c == 32
def isLt (c : UInt8) : Bool := (decide (65 ≤ c) && decide (c ≤ 90)) || (decide (97 ≤ c) && decide (c ≤ 122))
def isDg (c : UInt8) : Bool := decide (48 ≤ c) && decide (c ≤ 57)
def inRn (c : UInt8) : Bool := isLt c || isDg c || c == 95

def wordsL : List (List UInt8) := [[66], [76], [78], [99, 97, 115, 101], [99, 111, 110, 106], [101, 108, 115, 101], [102, 97, 105, 108], [102, 97, 108, 115, 101], [105, 102], [105, 109], [105, 110], [108, 101, 116], [110, 105, 108], [110, 111, 116], [111, 102], [114, 101], [115, 116, 114, 105, 99, 116], [116, 104, 101, 110], [116, 114, 117, 101]]
def signsL : List UInt8 := [40, 41, 44, 58, 59, 61, 43, 45, 42, 47, 60, 124]
def isWd (l : List UInt8) : Bool := wordsL.contains l

/-- The sign at the front; none: nothing. -/
def signL : List UInt8 → List UInt8
  | [] => []
  | c :: r => if (c == 45 && r.head? == some 62) || (c == 61 && r.head? == some 61) then c :: r.take 1 else if signsL.contains c then [c] else []

structure Num where
  ok : List UInt8 → Bool
  p : List UInt8 → Int
  q : List UInt8 → Int

section
variable (N : Num)

def runM (l : List UInt8) (k : Nat) : Option Mk :=
  if isWd l then some ⟨1, l, 0, 0, k⟩ else
  match l with
  | [] => none
  | c :: _ => if isDg c then (if N.ok l then some ⟨2, l, N.p l, N.q l, k⟩ else none) else if isLt c then some ⟨0, l, 0, 0, k⟩ else none

def signM (l : List UInt8) (k : Nat) : Option Mk := if signL l = [] then none else some ⟨3, signL l, 0, 0, k⟩

def oneM (l : List UInt8) (k : Nat) : Option Mk :=
  match l with
  | [] => none
  | c :: _ => if inRn c then runM N (l.takeWhile inRn) k else signM l k

inductive Stp where
  | stop
  | bad
  | skip (n : Nat)
  | mark (m : Mk)

def stp (l : List UInt8) (k : Nat) : Stp :=
  match l with
  | [] => .stop
  | c :: r => if isBl c then .skip 1 else if c == 35 then .skip (1 + (r.takeWhile (· != 10)).length) else
    match oneM N (c :: r) k with
    | none => .bad
    | some m => .mark m

def Cu.pre (ms : List Mk) : Cu → Cu
  | .ok l => .ok (ms ++ l)
  | .bad k => .bad k

def endM (k : Nat) : Mk := ⟨4, [], 0, 0, k⟩

def cutF : Nat → List UInt8 → Nat → Cu
  | 0, _, k => .bad k
  | f + 1, l, k =>
    match stp N l k with
    | .stop => .ok [endM k]
    | .bad => .bad k
    | .skip n => cutF f (l.drop n) (k + n)
    | .mark m => (cutF f (l.drop m.text.length) (k + m.text.length)).pre [m]

/-- The marks of a text whose first byte has place k; or where it has none. -/
def cut (l : List UInt8) (k : Nat) : Cu := cutF N (l.length + 1) l k

theorem tw_len (p : UInt8 → Bool) (l : List UInt8) : (l.takeWhile p).length ≤ l.length := by
  induction l with
  | nil => simp
  | cons a l ih => rw [List.takeWhile_cons]; split <;> simp; exact ih

theorem tw_take (p : UInt8 → Bool) (l : List UInt8) : l.take (l.takeWhile p).length = l.takeWhile p := by
  induction l with
  | nil => simp
  | cons a l ih => rw [List.takeWhile_cons]; split <;> simp [ih]

theorem tw_drop (p : UInt8 → Bool) (l : List UInt8) : l.drop (l.takeWhile p).length = l.dropWhile p := by
  induction l with
  | nil => simp
  | cons a l ih => rw [List.takeWhile_cons, List.dropWhile_cons]; split <;> simp_all

theorem signL_pos {c : UInt8} {r : List UInt8} (h : signL (c :: r) ≠ []) : 1 ≤ (signL (c :: r)).length ∧ (signL (c :: r)).length ≤ (c :: r).length ∧ (c :: r).take (signL (c :: r)).length = signL (c :: r) := by
  unfold signL at *
  dsimp only at *
  split
  · cases r <;> simp
  · split
    · simp
    · rename_i h1 h2; rw [if_neg h1, if_neg h2] at h; exact absurd rfl h

theorem runM_some {l : List UInt8} {k : Nat} {m : Mk} (h : runM N l k = some m) : m.text = l ∧ m.at_ = k ∧ m.kind ≠ 4 ∧ m.kind ≠ 3 := by
  unfold runM at h
  split at h
  · cases h; exact ⟨rfl, rfl, by simp, by simp⟩
  · cases l with
    | nil => cases h
    | cons c r =>
      dsimp only at h
      split at h
      · split at h
        · cases h; exact ⟨rfl, rfl, by simp, by simp⟩
        · cases h
      · split at h
        · cases h; exact ⟨rfl, rfl, by simp, by simp⟩
        · cases h

theorem oneM_text {c : UInt8} {r : List UInt8} {k : Nat} {m : Mk} (h : oneM N (c :: r) k = some m) :
    1 ≤ m.text.length ∧ m.text.length ≤ (c :: r).length ∧ (c :: r).take m.text.length = m.text ∧ m.at_ = k ∧ m.kind ≠ 4 := by
  unfold oneM at h
  dsimp only at h
  split at h
  · rename_i hc
    have htw : (c :: r).takeWhile inRn = c :: r.takeWhile inRn := by rw [List.takeWhile_cons, if_pos hc]
    obtain ⟨e1, e2, e3, _⟩ := runM_some N h
    rw [e1]
    exact ⟨by rw [htw]; simp, tw_len _ _, tw_take _ _, e2, e3⟩
  · unfold signM at h
    split at h
    · cases h
    · rename_i hs
      cases h
      obtain ⟨h1, h2, h3⟩ := signL_pos hs
      exact ⟨h1, h2, h3, rfl, by simp⟩

theorem stp_skip {l : List UInt8} {k n : Nat} (h : stp N l k = .skip n) : 1 ≤ n ∧ n ≤ l.length := by
  cases l with
  | nil => simp [stp] at h
  | cons c r =>
    unfold stp at h
    dsimp only at h
    split at h
    · cases h; simp
    · split at h
      · cases h; have := tw_len (· != 10) r; simp; omega
      · split at h <;> cases h

theorem stp_mark {l : List UInt8} {k : Nat} {m : Mk} (h : stp N l k = .mark m) : 1 ≤ m.text.length ∧ m.text.length ≤ l.length ∧ l.take m.text.length = m.text ∧ m.at_ = k ∧ m.kind ≠ 4 := by
  cases l with
  | nil => simp [stp] at h
  | cons c r =>
    unfold stp at h
    dsimp only at h
    split at h
    · cases h
    · split at h
      · cases h
      · split at h
        · cases h
        · cases h; rename_i h'; exact oneM_text N h'

theorem cutF_more : ∀ (f g : Nat) (l : List UInt8) (k : Nat), l.length < f → l.length < g → cutF N f l k = cutF N g l k := by
  intro f
  induction f with
  | zero => intro g l k h; omega
  | succ f ih =>
    intro g l k hf hg
    cases g with
    | zero => omega
    | succ g =>
      unfold cutF
      cases hs : stp N l k with
      | stop => rfl
      | bad => rfl
      | skip n =>
        obtain ⟨h1, h2⟩ := stp_skip N hs
        exact ih _ _ _ (by rw [List.length_drop]; omega) (by rw [List.length_drop]; omega)
      | mark m =>
        obtain ⟨h1, h2, _⟩ := stp_mark N hs
        show Cu.pre _ _ = Cu.pre _ _
        rw [ih g _ _ (by rw [List.length_drop]; omega) (by rw [List.length_drop]; omega)]

theorem cut_nil (k : Nat) : cut N [] k = .ok [endM k] := rfl

theorem cut_bad {l : List UInt8} {k : Nat} (h : stp N l k = .bad) : cut N l k = .bad k := by
  unfold cut cutF; rw [h]

theorem cut_skip {l : List UInt8} {k n : Nat} (h : stp N l k = .skip n) : cut N l k = cut N (l.drop n) (k + n) := by
  obtain ⟨h1, h2⟩ := stp_skip N h
  unfold cut
  conv => lhs; unfold cutF
  rw [h]
  exact cutF_more N _ _ _ _ (by rw [List.length_drop]; omega) (by omega)

theorem cut_mark {l : List UInt8} {k : Nat} {m : Mk} (h : stp N l k = .mark m) : cut N l k = (cut N (l.drop m.text.length) (k + m.text.length)).pre [m] := by
  obtain ⟨h1, h2, _⟩ := stp_mark N h
  unfold cut
  conv => lhs; unfold cutF
  rw [h]
  show Cu.pre _ _ = Cu.pre _ _
  rw [cutF_more N _ ((l.drop m.text.length).length + 1) _ _ (by rw [List.length_drop]; omega) (by omega)]

theorem stp_stop {l : List UInt8} {k : Nat} (h : stp N l k = .stop) : l = [] := by
  cases l with
  | nil => rfl
  | cons c r =>
    unfold stp at h
    dsimp only at h
    split at h
    · cases h
    · split at h
      · cases h
      · split at h <;> cases h

theorem pre_pre (a b : List Mk) (c : Cu) : (c.pre b).pre a = c.pre (a ++ b) := by cases c <;> simp [Cu.pre]
theorem pre_nil (c : Cu) : c.pre [] = c := by cases c <;> simp [Cu.pre]

/-- Going on by the text's length. -/
theorem cut_ind {C : List UInt8 → Nat → Prop} (h0 : ∀ k, C [] k) (hb : ∀ l k, stp N l k = .bad → C l k)
    (hs : ∀ l k n, stp N l k = .skip n → C (l.drop n) (k + n) → C l k)
    (hm : ∀ l k m, stp N l k = .mark m → C (l.drop m.text.length) (k + m.text.length) → C l k) : ∀ l k, C l k := by
  intro l
  generalize hn : l.length = n
  induction n using Nat.strongRecOn generalizing l with
  | _ n ih =>
    intro k
    cases h : stp N l k with
    | stop => rw [stp_stop N h]; exact h0 k
    | bad => exact hb l k h
    | skip j =>
      obtain ⟨h1, h2⟩ := stp_skip N h
      exact hs l k j h (ih (l.drop j).length (by rw [List.length_drop]; omega) _ rfl _)
    | mark m =>
      obtain ⟨h1, h2, _⟩ := stp_mark N h
      exact hm l k m h (ih (l.drop m.text.length).length (by rw [List.length_drop]; omega) _ rfl _)

/-! ## Places moved on -/
def Mk.mv (m : Mk) (n : Nat) : Mk := { m with at_ := m.at_ + n }
def Cu.mv (n : Nat) : Cu → Cu
  | .ok ms => .ok (ms.map (·.mv n))
  | .bad k => .bad (k + n)

theorem oneM_mv (l : List UInt8) (k n : Nat) : oneM N l (k + n) = (oneM N l k).map (·.mv n) := by
  unfold oneM
  split
  · rfl
  · split
    · unfold runM
      split
      · rfl
      · split
        · rfl
        · split
          · split <;> rfl
          · split <;> rfl
    · unfold signM; split <;> rfl

theorem stp_mv (l : List UInt8) (k n : Nat) : stp N l (k + n) = match stp N l k with | .mark m => .mark (m.mv n) | s => s := by
  unfold stp
  split
  · rfl
  · split
    · rfl
    · split
      · rfl
      · rw [oneM_mv]; cases oneM N _ k <;> rfl

theorem pre_mv (m : Mk) (n : Nat) (c : Cu) : (c.pre [m]).mv n = (c.mv n).pre [m.mv n] := by cases c <;> rfl

theorem cut_mv (n : Nat) : ∀ l k, cut N l (k + n) = (cut N l k).mv n := by
  refine cut_ind N ?_ ?_ ?_ ?_
  · intro k; rfl
  · intro l k h; rw [cut_bad N h, cut_bad N (by rw [stp_mv, h])]; rfl
  · intro l k j h ih
    rw [cut_skip N h, cut_skip N (by rw [stp_mv, h]), ← ih, Nat.add_right_comm]
  · intro l k m h ih
    rw [cut_mark N h, cut_mark N (by rw [stp_mv, h]), pre_mv, ← ih, Nat.add_right_comm]
    rfl

/-! ## Two texts, one behind the other -/
theorem tw_app (p : UInt8 → Bool) (a b : List UInt8) (d : UInt8) (hd : p d = false) : (a ++ d :: b).takeWhile p = a.takeWhile p := by
  induction a with
  | nil => simp [hd]
  | cons c a ih => rw [List.cons_append, List.takeWhile_cons, List.takeWhile_cons, ih]

/-- A byte that goes on with no run and no sign. -/
def brk (d : UInt8) : Bool := !inRn d && d != 62 && d != 61

theorem signL_app (c : UInt8) (a b : List UInt8) (d : UInt8) (hd : brk d = true) : signL (c :: (a ++ d :: b)) = signL (c :: a) := by
  have h1 : d ≠ 62 := by intro e; subst e; revert hd; decide
  have h2 : d ≠ 61 := by intro e; subst e; revert hd; decide
  cases a with
  | nil => simp [signL, h1, h2]
  | cons e a => simp [signL]

theorem oneM_app (c : UInt8) (a b : List UInt8) (d : UInt8) (k : Nat) (hd : brk d = true) : oneM N (c :: (a ++ d :: b)) k = oneM N (c :: a) k := by
  have h1 : inRn d = false := by unfold brk at hd; revert hd; cases inRn d <;> simp
  unfold oneM
  dsimp only
  rw [show c :: (a ++ d :: b) = (c :: a) ++ d :: b from rfl, tw_app inRn _ _ _ h1]
  unfold signM
  rw [List.cons_append, signL_app _ _ _ _ hd]

theorem stp_app10 (c : UInt8) (a b : List UInt8) (k : Nat) : stp N (c :: (a ++ 10 :: b)) k = stp N (c :: a) k := by
  unfold stp
  dsimp only
  rw [oneM_app N _ _ _ _ _ (by decide), tw_app (· != 10) _ _ _ (by decide)]

/-- What two texts with a byte 10 between have. -/
def joinC (x : Cu) (y : Cu) : Cu :=
  match x with
  | .bad k => .bad k
  | .ok ms => y.pre ms.dropLast

theorem cut_ne : ∀ l k, ∀ ms, cut N l k = .ok ms → ms ≠ [] := by
  refine cut_ind N ?_ ?_ ?_ ?_
  · intro k ms h; cases h; simp
  · intro l k h ms e; rw [cut_bad N h] at e; cases e
  · intro l k j h ih ms e; rw [cut_skip N h] at e; exact ih ms e
  · intro l k m h ih ms e
    rw [cut_mark N h] at e
    cases hc : cut N (l.drop m.text.length) (k + m.text.length) with
    | ok l' => rw [hc] at e; cases e; simp
    | bad j => rw [hc] at e; cases e

theorem joinC_pre (m : Mk) (x y : Cu) (h : ∀ ms, x = .ok ms → ms ≠ []) : joinC (x.pre [m]) y = (joinC x y).pre [m] := by
  cases x with
  | bad k => rfl
  | ok ms =>
    have := h ms rfl
    cases ms with
    | nil => exact absurd rfl this
    | cons a t => show Cu.pre _ _ = Cu.pre _ (Cu.pre _ _); rw [pre_pre]; rfl

theorem cut_join (b : List UInt8) : ∀ a k, cut N (a ++ 10 :: b) k = joinC (cut N a k) (cut N b (k + a.length + 1)) := by
  refine cut_ind N ?_ ?_ ?_ ?_
  · intro k
    have h : stp N (10 :: b) k = .skip 1 := rfl
    show cut N (10 :: b) k = _
    rw [cut_skip N h]
    show cut N b (k + 1) = Cu.pre [] (cut N b (k + 0 + 1))
    rw [pre_nil]
  · intro l k h
    cases l with
    | nil => simp [stp] at h
    | cons c r => rw [cut_bad N h, List.cons_append, cut_bad N (by rw [stp_app10]; exact h)]; rfl
  · intro l k j h ih
    obtain ⟨h1, h2⟩ := stp_skip N h
    cases l with
    | nil => simp [stp] at h
    | cons c r =>
      rw [cut_skip N h, List.cons_append, cut_skip N (by rw [stp_app10]; exact h), ← List.cons_append, List.drop_append_of_le_length h2, ih]
      congr 2
      rw [List.length_drop]; omega
  · intro l k m h ih
    obtain ⟨h1, h2, _⟩ := stp_mark N h
    cases l with
    | nil => simp [stp] at h
    | cons c r =>
      rw [cut_mark N h, List.cons_append, cut_mark N (by rw [stp_app10]; exact h), ← List.cons_append, List.drop_append_of_le_length h2, ih, joinC_pre _ _ _ (cut_ne N _ _)]
      congr 3
      rw [List.length_drop]; omega

/-! ## A fault: where it stands, and what lies ahead of it -/
theorem tw_take_ge (p : UInt8 → Bool) : ∀ (l : List UInt8) (j : Nat), (l.takeWhile p).length ≤ j → (l.take j).takeWhile p = l.takeWhile p := by
  intro l
  induction l with
  | nil => simp
  | cons c l ih =>
    intro j h
    rw [List.takeWhile_cons] at h ⊢
    cases j with
    | zero =>
      split at h
      · simp at h
      · rename_i hc; simpa using hc
    | succ j =>
      rw [List.take_succ_cons, List.takeWhile_cons]
      split
      · rename_i hc
        rw [if_pos hc] at h
        rw [ih j (by simpa using h)]
      · rfl

theorem signL_take (c : UInt8) (r : List UInt8) (j : Nat) (h : (signL (c :: r)).length ≤ j + 1) : signL (c :: r.take j) = signL (c :: r) := by
  cases r with
  | nil => simp
  | cons d r =>
    cases j with
    | succ j => simp [signL]
    | zero =>
      unfold signL at h ⊢
      dsimp only at h ⊢
      split at h
      · simp at h
      · rename_i h1
        rw [if_neg h1, if_neg (by simp)]

theorem stp_take {c : UInt8} {r : List UInt8} {k n : Nat} (h : (stp N (c :: r) k = .skip n) ∨ (∃ m, stp N (c :: r) k = .mark m ∧ n = m.text.length)) (j : Nat) (hj : n ≤ j + 1) : stp N (c :: r.take j) k = stp N (c :: r) k := by
  unfold stp at h ⊢
  dsimp only at h ⊢
  split
  · rfl
  · rename_i h1
    rw [if_neg h1] at h
    split
    · rename_i h2
      rw [if_pos h2] at h
      rcases h with h | ⟨m, h, _⟩
      · cases h
        rw [tw_take_ge _ _ _ (by omega)]
      · cases h
    · rename_i h2
      rw [if_neg h2] at h
      have e : oneM N (c :: r.take j) k = oneM N (c :: r) k := by
        rcases h with h | ⟨m, h, hn⟩
        · split at h <;> cases h
        · split at h
          · cases h
          · rename_i m' hm
            cases h
            unfold oneM at hm ⊢
            dsimp only at hm ⊢
            split
            · rename_i hc
              rw [if_pos hc] at hm
              have hl : ((c :: r).takeWhile inRn).length ≤ j + 1 := by
                rw [← (runM_some N hm).1, ← hn]; exact hj
              rw [← List.take_succ_cons, tw_take_ge _ _ _ hl]
            · rename_i hc
              rw [if_neg hc] at hm
              unfold signM at hm ⊢
              split at hm
              · cases hm
              · cases hm
                rw [signL_take _ _ _ (by rw [← hn]; exact hj)]
      rw [e]

theorem cut_bad_at : ∀ l k j, cut N l k = .bad j → k ≤ j ∧ j < k + l.length ∧ ∃ ms, cut N (l.take (j - k)) k = .ok ms := by
  refine cut_ind N ?_ ?_ ?_ ?_
  · intro k j h; cases h
  · intro l k h j e
    rw [cut_bad N h] at e
    cases e
    cases l with
    | nil => simp [stp] at h
    | cons c r => exact ⟨Nat.le_refl _, by simp, by rw [Nat.sub_self]; exact ⟨_, cut_nil N k⟩⟩
  · intro l k n h ih j e
    obtain ⟨h1, h2⟩ := stp_skip N h
    rw [cut_skip N h] at e
    obtain ⟨i1, i2, ms, i3⟩ := ih j e
    rw [List.length_drop] at i2
    refine ⟨by omega, by omega, ms, ?_⟩
    cases l with
    | nil => simp [stp] at h
    | cons c r =>
      obtain ⟨i, hi⟩ : ∃ i, j - k = i + 1 := ⟨j - k - 1, by omega⟩
      rw [hi, List.take_succ_cons, cut_skip N (by rw [stp_take N (.inl h) i (by omega)]; exact h), ← i3, ← List.take_succ_cons, ← hi, List.drop_take]
      congr 2
      omega
  · intro l k m h ih j e
    obtain ⟨h1, h2, _⟩ := stp_mark N h
    rw [cut_mark N h] at e
    have e' : cut N (l.drop m.text.length) (k + m.text.length) = .bad j := by
      cases hc : cut N (l.drop m.text.length) (k + m.text.length) with
      | ok l' => rw [hc] at e; cases e
      | bad i => rw [hc] at e; cases e; rfl
    obtain ⟨i1, i2, ms, i3⟩ := ih j e'
    rw [List.length_drop] at i2
    refine ⟨by omega, by omega, m :: ms, ?_⟩
    cases l with
    | nil => simp [stp] at h
    | cons c r =>
      obtain ⟨i, hi⟩ : ∃ i, j - k = i + 1 := ⟨j - k - 1, by omega⟩
      rw [hi, List.take_succ_cons, cut_mark N (by rw [stp_take N (.inr ⟨m, h, rfl⟩) i (by omega)]; exact h), ← List.take_succ_cons, ← hi, List.drop_take]
      have : j - k - m.text.length = j - (k + m.text.length) := by omega
      rw [this, i3]
      rfl

/-! ## Cover -/
/-- Are these bytes blanks and remarks alone? 'b': within a remark. -/
def frB : Bool → List UInt8 → Bool
  | _, [] => true
  | b, c :: r => if c == 10 then frB false r else if c == 35 then frB true r else if !b && !isBl c then false else frB b r

theorem frB_rem (g : List UInt8) : ∀ t : List UInt8, (∀ c ∈ t, (c != 10) = true) → frB true (t ++ g) = frB true g := by
  intro t
  induction t with
  | nil => intro _; rfl
  | cons c t ih =>
    intro h
    have hc := h c (by simp)
    have hc' : (c == 10) = false := by simpa using hc
    have ih := ih (fun d hd => h d (by simp [hd]))
    rw [List.cons_append, frB, hc']
    simp only [Bool.false_eq_true, if_false, Bool.not_true, Bool.false_and]
    rw [ih]
    simp

theorem tw_all (p : UInt8 → Bool) : ∀ l : List UInt8, ∀ c ∈ l.takeWhile p, p c = true := by
  intro l
  induction l with
  | nil => simp
  | cons d l ih =>
    intro c hc
    rw [List.takeWhile_cons] at hc
    split at hc
    · rw [List.mem_cons] at hc
      rcases hc with rfl | hc
      · assumption
      · exact ih c hc
    · simp at hc

theorem dw_head (p : UInt8 → Bool) : ∀ l : List UInt8, l.dropWhile p = [] ∨ ∃ c r, l.dropWhile p = c :: r ∧ p c = false := by
  intro l
  induction l with
  | nil => simp
  | cons d l ih =>
    rw [List.dropWhile_cons]
    split
    · exact ih
    · exact .inr ⟨d, l, rfl, by simpa using ‹¬ p d = true›⟩

theorem tw_split (p : UInt8 → Bool) (l : List UInt8) : l = l.takeWhile p ++ l.dropWhile p := by simp

/-- A skip is free, and what is free behind it is so with it. -/
theorem skip_free {l : List UInt8} {k n : Nat} (h : stp N l k = .skip n) (j : Nat) (hj : frB false ((l.drop n).take j) = true) : frB false (l.take (n + j)) = true := by
  cases l with
  | nil => simp [stp] at h
  | cons c r =>
    unfold stp at h
    dsimp only at h
    split at h
    · rename_i hc
      cases h
      rw [Nat.add_comm, List.take_succ_cons, frB]
      rw [List.drop_one, List.tail_cons] at hj
      split
      · exact hj
      · split
        · rename_i h2; simp at h2; subst h2; exact absurd hc (by decide)
        · rw [hc]; simpa using hj
    · split at h
      · rename_i hb hc
        have hc' : c = 35 := by simpa using hc
        subst hc'
        cases h
        have e1 : (35 :: r).drop (1 + (r.takeWhile (· != 10)).length) = r.dropWhile (· != 10) := by
          rw [Nat.add_comm, List.drop_succ_cons, tw_drop]
        rw [e1] at hj
        have e2 : (35 :: r).take (1 + (r.takeWhile (· != 10)).length + j) = 35 :: (r.takeWhile (· != 10) ++ (r.dropWhile (· != 10)).take j) := by
          rw [show 1 + (r.takeWhile (· != 10)).length + j = ((r.takeWhile (· != 10)).length + j) + 1 by omega, List.take_succ_cons]
          congr 1
          have := @List.take_append _ (r.takeWhile (· != 10)) (r.dropWhile (· != 10)) ((r.takeWhile (· != 10)).length + j)
          rw [← tw_split (· != 10) r] at this
          rw [this, List.take_of_length_le (l := r.takeWhile (· != 10)) (by omega), Nat.add_sub_cancel_left]
        rw [e2]
        show frB true _ = true
        rw [frB_rem _ _ (tw_all _ _)]
        rcases dw_head (· != 10) r with e | ⟨d, t, e, hd⟩
        · rw [e]; simp [frB]
        · rw [e] at hj ⊢
          have hd' : d = 10 := by simpa using hd
          subst hd'
          cases j with
          | zero => rfl
          | succ j => exact hj
      · split at h <;> cases h

/-- The kinds that a mark ahead of the end can have. -/
def okK (m : Mk) : Prop := m.kind ≠ 4 ∧ m.text ≠ [] ∧ (m.kind = 1 ↔ isWd m.text = true) ∧ (m.kind ≠ 2 → m.p = 0 ∧ m.q = 0)

def Cov (T : List UInt8) : Nat → List Mk → Prop
  | _, [] => False
  | k, m :: ms => k ≤ m.at_ ∧ m.at_ + m.text.length ≤ T.length ∧ (T.drop m.at_).take m.text.length = m.text ∧ frB false ((T.drop k).take (m.at_ - k)) = true ∧
      ((ms = [] ∧ m = endM T.length) ∨ (ms ≠ [] ∧ okK m ∧ Cov T (m.at_ + m.text.length) ms))

theorem isWd_head {l : List UInt8} (h : isWd l = true) : ∃ c r, l = c :: r ∧ isLt c = true ∧ inRn c = true := by
  unfold isWd wordsL at h
  simp only [List.contains_iff_mem, List.mem_cons, List.not_mem_nil, or_false] at h
  rcases h with h | h | h | h | h | h | h | h | h | h | h | h | h | h | h | h | h | h | h <;> exact ⟨_, _, h, by decide, by decide⟩

theorem sign_word {l : List UInt8} (h : signL l ≠ []) : isWd (signL l) = false := by
  cases hw : isWd (signL l) with
  | false => rfl
  | true =>
    obtain ⟨c, r, e, hc, _⟩ := isWd_head hw
    cases l with
    | nil => exact absurd rfl h
    | cons d t =>
      unfold signL at e h
      dsimp only at e h
      split at e
      · rename_i h1
        cases e
        simp at h1
        rcases h1 with ⟨rfl, _⟩ | ⟨rfl, _⟩ <;> exact absurd hc (by decide)
      · split at e
        · rename_i h2
          cases e
          simp [signsL] at h2
          rcases h2 with rfl | rfl | rfl | rfl | rfl | rfl | rfl | rfl | rfl | rfl | rfl | rfl <;> exact absurd hc (by decide)
        · cases e

theorem oneM_okK {c : UInt8} {r : List UInt8} {k : Nat} {m : Mk} (h : oneM N (c :: r) k = some m) : okK m := by
  obtain ⟨h1, _, _, _, h4⟩ := oneM_text N h
  refine ⟨h4, by intro e; rw [e] at h1; simp at h1, ?_, ?_⟩
  · unfold oneM at h
    dsimp only at h
    split at h
    · generalize (c :: r).takeWhile inRn = l at h
      unfold runM at h
      split at h
      · rename_i hw; cases h; simp [hw]
      · rename_i hw
        cases l with
        | nil => cases h
        | cons d t =>
          dsimp only at h
          split at h
          · split at h
            · cases h; simp [hw]
            · cases h
          · split at h
            · cases h; simp [hw]
            · cases h
    · unfold signM at h
      split at h
      · cases h
      · rename_i hs; cases h; simp [sign_word hs]
  · intro hk
    unfold oneM at h
    dsimp only at h
    split at h
    · generalize (c :: r).takeWhile inRn = l at h
      unfold runM at h
      split at h
      · cases h; exact ⟨rfl, rfl⟩
      · cases l with
        | nil => cases h
        | cons d t =>
          dsimp only at h
          split at h
          · split at h
            · cases h; exact absurd rfl hk
            · cases h
          · split at h
            · cases h; exact ⟨rfl, rfl⟩
            · cases h
    · unfold signM at h
      split at h
      · cases h
      · cases h; exact ⟨rfl, rfl⟩

theorem stp_okK {l : List UInt8} {k : Nat} {m : Mk} (h : stp N l k = .mark m) : okK m := by
  cases l with
  | nil => simp [stp] at h
  | cons c r =>
    unfold stp at h
    dsimp only at h
    split at h
    · cases h
    · split at h
      · cases h
      · split at h
        · cases h
        · cases h; exact oneM_okK N ‹_›

theorem cov_of (T : List UInt8) : ∀ l k, l = T.drop k → k ≤ T.length → ∀ ms, cut N l k = .ok ms → Cov T k ms := by
  refine cut_ind N ?_ ?_ ?_ ?_
  · intro k e hk ms h
    cases h
    have : k = T.length := by
      have := congrArg List.length e
      simp at this
      omega
    subst this
    exact ⟨Nat.le_refl _, by simp [endM], by simp [endM], by simp [endM, frB], .inl ⟨rfl, rfl⟩⟩
  · intro l k h _ _ ms e; rw [cut_bad N h] at e; cases e
  · intro l k n h ih e hk ms hc
    obtain ⟨h1, h2⟩ := stp_skip N h
    rw [cut_skip N h] at hc
    have hl : l.length = T.length - k := by rw [e, List.length_drop]
    have ih := ih (by rw [e, List.drop_drop]) (by omega) ms hc
    cases ms with
    | nil => exact ih
    | cons m ms =>
      obtain ⟨i1, i2, i3, i4, i5⟩ := ih
      refine ⟨by omega, i2, i3, ?_, i5⟩
      rw [← e, show m.at_ - k = n + (m.at_ - (k + n)) by omega]
      refine skip_free N h _ ?_
      rw [e, List.drop_drop]
      exact i4
  · intro l k m h ih e hk ms hc
    obtain ⟨h1, h2, h3, h4, h5⟩ := stp_mark N h
    have hok := stp_okK N h
    rw [cut_mark N h] at hc
    have hl : l.length = T.length - k := by rw [e, List.length_drop]
    cases hc' : cut N (l.drop m.text.length) (k + m.text.length) with
    | bad j => rw [hc'] at hc; cases hc
    | ok ms' =>
      rw [hc'] at hc
      cases hc
      have ih := ih (by rw [e, List.drop_drop]) (by omega) ms' hc'
      have hne := cut_ne N _ _ _ hc'
      refine ⟨by omega, by omega, by rw [h4, ← e]; exact h3, by rw [h4]; simp [frB], .inr ⟨hne, hok, by rw [h4]; exact ih⟩⟩

/-! ## Other gaps -/
/-- The mark that these bytes are, alone and ahead of a break. -/
def isM (m : Mk) : Prop := ∃ c r, m.text = c :: r ∧ isBl c = false ∧ (c == 35) = false ∧ ∀ k, oneM N (c :: r) k = some { m with at_ := k }

theorem tw_tw (p : UInt8 → Bool) (l : List UInt8) : (l.takeWhile p).takeWhile p = l.takeWhile p := by
  induction l with
  | nil => rfl
  | cons c l ih =>
    rw [List.takeWhile_cons]
    split
    · rename_i h; rw [List.takeWhile_cons, if_pos h, ih]
    · rfl

theorem signL_self (l : List UInt8) : signL (signL l) = signL l := by
  cases l with
  | nil => rfl
  | cons c r =>
    by_cases h : ((c == 45 && r.head? == some 62) || (c == 61 && r.head? == some 61)) = true
    · have e : signL (c :: r) = c :: r.take 1 := by unfold signL; dsimp only; rw [if_pos h]
      rw [e]
      cases r with
      | nil => simp at h
      | cons d r =>
        unfold signL
        dsimp only
        rw [if_pos (by simpa using h)]
        simp
    · by_cases h2 : signsL.contains c = true
      · have e : signL (c :: r) = [c] := by unfold signL; dsimp only; rw [if_neg h, if_pos h2]
        rw [e]
        unfold signL
        dsimp only
        rw [if_neg (by simp), if_pos h2]
      · have e : signL (c :: r) = [] := by unfold signL; dsimp only; rw [if_neg h, if_neg h2]
        rw [e]
        rfl

theorem runM_at {l : List UInt8} {k : Nat} {m : Mk} (h : runM N l k = some m) (j : Nat) : runM N l j = some { m with at_ := j } := by
  unfold runM at h ⊢
  split at h
  · rename_i hw; cases h; rw [if_pos hw]
  · rename_i hw
    rw [if_neg hw]
    cases l with
    | nil => cases h
    | cons d t =>
      dsimp only at h ⊢
      split at h
      · rename_i h1
        rw [if_pos h1]
        split at h
        · rename_i h2; cases h; rw [if_pos h2]
        · cases h
      · rename_i h1
        rw [if_neg h1]
        split at h
        · rename_i h2; cases h; rw [if_pos h2]
        · cases h

theorem oneM_isM {c : UInt8} {r : List UInt8} {k : Nat} {m : Mk} (hb : isBl c = false) (hc : (c == 35) = false) (h : oneM N (c :: r) k = some m) : isM N m := by
  unfold oneM at h
  dsimp only at h
  split at h
  · rename_i hr
    have e1 := (runM_some N h).1
    have e2 : (c :: r).takeWhile inRn = c :: r.takeWhile inRn := by rw [List.takeWhile_cons, if_pos hr]
    refine ⟨c, r.takeWhile inRn, by rw [e1, e2], hb, hc, fun j => ?_⟩
    unfold oneM
    dsimp only
    rw [if_pos hr, ← e2, tw_tw]
    exact runM_at N h j
  · rename_i hr
    unfold signM at h
    split at h
    · cases h
    · rename_i hs
      cases h
      obtain ⟨t, ht⟩ : ∃ t, signL (c :: r) = c :: t := by
        have h3 := (signL_pos hs).2.2
        cases hx : signL (c :: r) with
        | nil => exact absurd hx hs
        | cons d t =>
          rw [hx] at h3
          simp at h3
          exact ⟨t, by rw [h3.1]⟩
      refine ⟨c, t, ht, hb, hc, fun j => ?_⟩
      unfold oneM
      dsimp only
      rw [if_neg hr, ← ht]
      unfold signM
      rw [signL_self, if_neg hs]

theorem stp_isM {l : List UInt8} {k : Nat} {m : Mk} (h : stp N l k = .mark m) : isM N m := by
  cases l with
  | nil => simp [stp] at h
  | cons c r =>
    unfold stp at h
    dsimp only at h
    split at h
    · cases h
    · rename_i hb
      split at h
      · cases h
      · rename_i hc
        split at h
        · cases h
        · cases h; exact oneM_isM N (by simpa using hb) (by simpa using hc) ‹_›

/-- All but the last are marks, the last one is the end. -/
def Mks : List Mk → Prop
  | [] => False
  | m :: ms => (ms = [] ∧ ∃ k, m = endM k) ∨ (ms ≠ [] ∧ isM N m ∧ Mks ms)

theorem mks_of : ∀ l k ms, cut N l k = .ok ms → Mks N ms := by
  refine cut_ind N ?_ ?_ ?_ ?_
  · intro k ms h; cases h; exact .inl ⟨rfl, k, rfl⟩
  · intro l k h ms e; rw [cut_bad N h] at e; cases e
  · intro l k n h ih ms e; rw [cut_skip N h] at e; exact ih ms e
  · intro l k m h ih ms e
    rw [cut_mark N h] at e
    cases hc' : cut N (l.drop m.text.length) (k + m.text.length) with
    | bad j => rw [hc'] at e; cases e
    | ok ms' =>
      rw [hc'] at e
      cases e
      exact .inr ⟨cut_ne N _ _ _ hc', stp_isM N h, ih ms' hc'⟩

/-- Bytes that are but a gap, and break what stands ahead. -/
def isGap (g : List UInt8) : Prop := (∃ d t, g = d :: t ∧ brk d = true) ∧ ∀ l k, cut N (g ++ l) k = cut N l (k + g.length)

def gapL : List (List UInt8) := [[32], [10], [9], [13], [32, 35, 32, 61, 61, 32, 51, 120, 32, 64, 10], [35, 10], [32, 32]]

theorem gap_one (c : UInt8) (h : isBl c = true) (l : List UInt8) (k : Nat) : cut N (c :: l) k = cut N l (k + 1) := by
  have : stp N (c :: l) k = .skip 1 := by unfold stp; dsimp only; rw [if_pos h]
  rw [cut_skip N this]
  rfl

theorem gap_all : ∀ g ∈ gapL, isGap N g := by
  intro g hg
  unfold gapL at hg
  simp only [List.mem_cons, List.not_mem_nil, or_false] at hg
  rcases hg with rfl | rfl | rfl | rfl | rfl | rfl | rfl
  · exact ⟨⟨_, _, rfl, by decide⟩, fun l k => gap_one N _ (by decide) l k⟩
  · exact ⟨⟨_, _, rfl, by decide⟩, fun l k => gap_one N _ (by decide) l k⟩
  · exact ⟨⟨_, _, rfl, by decide⟩, fun l k => gap_one N _ (by decide) l k⟩
  · exact ⟨⟨_, _, rfl, by decide⟩, fun l k => gap_one N _ (by decide) l k⟩
  · refine ⟨⟨_, _, rfl, by decide⟩, fun l k => ?_⟩
    show cut N (32 :: _) k = _
    rw [gap_one N _ (by decide)]
    have h : stp N (35 :: 32 :: 61 :: 61 :: 32 :: 51 :: 120 :: 32 :: 64 :: 10 :: l) (k + 1) = .skip 9 := rfl
    show cut N (35 :: 32 :: 61 :: 61 :: 32 :: 51 :: 120 :: 32 :: 64 :: 10 :: l) (k + 1) = _
    rw [cut_skip N h]
    show cut N (10 :: l) (k + 1 + 9) = _
    rw [gap_one N _ (by decide)]
    rfl
  · refine ⟨⟨_, _, rfl, by decide⟩, fun l k => ?_⟩
    have h : stp N (35 :: 10 :: l) k = .skip 1 := rfl
    show cut N (35 :: 10 :: l) k = _
    rw [cut_skip N h]
    show cut N (10 :: l) (k + 1) = _
    rw [gap_one N _ (by decide)]
    rfl
  · refine ⟨⟨_, _, rfl, by decide⟩, fun l k => ?_⟩
    show cut N (32 :: 32 :: l) k = _
    rw [gap_one N _ (by decide), gap_one N _ (by decide)]
    rfl

/-- The marks' texts, each behind a gap. -/
def spaced (g : Nat → List UInt8) : Nat → List Mk → List UInt8
  | _, [] => []
  | i, m :: ms => g i ++ (m.text ++ spaced g (i + 1) ms)

/-- The same marks but for their places. -/
def unp (m : Mk) : Mk := { m with at_ := 0 }

theorem cut_spaced (g : Nat → List UInt8) (hg : ∀ i, isGap N (g i)) : ∀ (ms : List Mk) (i k : Nat), Mks N ms → ∃ out, cut N (spaced g i ms) k = .ok out ∧ out.map unp = ms.map unp := by
  intro ms
  induction ms with
  | nil => intro i k h; exact absurd h (by simp [Mks])
  | cons m ms ih =>
    intro i k h
    rcases h with ⟨rfl, j, rfl⟩ | ⟨hne, hm, hms⟩
    · refine ⟨[endM (k + (g i).length)], ?_, rfl⟩
      show cut N (g i ++ []) k = _
      rw [(hg i).2]
      rfl
    · obtain ⟨c, r, et, hb, hc, ho⟩ := hm
      obtain ⟨out, h1, h2⟩ := ih (i + 1) (k + (g i).length + m.text.length) hms
      obtain ⟨d, t, hd, hbr⟩ : ∃ d t, spaced g (i + 1) ms = d :: t ∧ brk d = true := by
        cases ms with
        | nil => exact absurd rfl hne
        | cons m' ms' =>
          obtain ⟨d, t, e, hbr⟩ := (hg (i + 1)).1
          exact ⟨d, _, by show g (i + 1) ++ _ = _; rw [e]; rfl, hbr⟩
      refine ⟨{ m with at_ := k + (g i).length } :: out, ?_, by simp [h2, unp]⟩
      show cut N (g i ++ _) k = _
      rw [(hg i).2]
      have hs : stp N (m.text ++ spaced g (i + 1) ms) (k + (g i).length) = .mark { m with at_ := k + (g i).length } := by
        have e : m.text ++ spaced g (i + 1) ms = c :: (r ++ d :: t) := by rw [et, hd]; rfl
        rw [e]
        unfold stp
        dsimp only
        rw [hb, hc, oneM_app N _ _ _ _ _ hbr, ho]
        rfl
      rw [cut_mark N hs]
      show Cu.pre _ (cut N ((m.text ++ _).drop m.text.length) _) = _
      rw [List.drop_left, h1]
      rfl
end
end Go.Proofs.YtkonkplalgoekaaGreatDoor
