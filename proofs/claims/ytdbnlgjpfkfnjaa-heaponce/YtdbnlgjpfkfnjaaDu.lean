/-
  Two heaps side by side, the program's and the document's, with a call of a script between them.
-/
import Derived.Test.YtdbnlgjpfkfnjaaDt
import Derived.Test.YtdbnlgjpfkfnjaaDq
namespace Go.Proofs.Ytdbnlgjpfkfnjaa
open Go.RowKit
open Go.Lib
set_option maxRecDepth 100000

/-- How the two heaps stand, having stood at S1, S2 in w. -/
structure St (w cur : World) (S1 S2 T1 T2 : Nat → Prop) (bh bm : Nat) (H1 H2 : Hm) : Prop where
  p : HpW 73 87 T1 cur bh H1
  r : HpW 30 80 T2 cur bm H2
  dj : ∀ k, T1 k → ¬ T2 k
  s1 : ∀ k, T1 k → S1 k ∨ w.heap.size ≤ k
  s2 : ∀ k, T2 k → S2 k ∨ w.heap.size ≤ k
  U : ButS (fun k => S1 k ∨ S2 k) w cur
section
variable {w cur cur' : World} {S1 S2 T1 T2 : Nat → Prop} {bh bm : Nat} {H1 H2 H' : Hm}
theorem St.start (p : HpW 73 87 S1 w bh H1) (r : HpW 30 80 S2 w bm H2) (dj : ∀ k, S1 k → ¬ S2 k) : St w w S1 S2 S1 S2 bh bm H1 H2 :=
  ⟨p, r, dj, fun _ h => .inl h, fun _ h => .inl h, .refl _ _⟩
theorem St.up (h : St w cur S1 S2 T1 T2 bh bm H1 H2) (hb : Below cur.heap.size cur cur') : St w cur' S1 S2 T1 T2 bh bm H1 H2 :=
  ⟨h.p.up hb, h.r.up hb, h.dj, h.s1, h.s2, h.U.trans (.below hb)⟩
theorem St.oth (h : St w cur S1 S2 T1 T2 bh bm H1 H2) {g : Nat} (hO : Oth g cur cur') (h1 : ¬ T1 g) (h2 : ¬ T2 g) (hg : w.heap.size ≤ g) : St w cur' S1 S2 T1 T2 bh bm H1 H2 :=
  ⟨h.p.oth hO h1, h.r.oth hO h2, h.dj, h.s1, h.s2, h.U.thenOth hO hg⟩
theorem St.out1 (h : St w cur S1 S2 T1 T2 bh bm H1 H2) {g : Nat} (hg : cur.heap.size ≤ g) : ¬ T1 g := fun e => absurd (h.p.lt g e) (by omega)
theorem St.out2 (h : St w cur S1 S2 T1 T2 bh bm H1 H2) {g : Nat} (hg : cur.heap.size ≤ g) : ¬ T2 g := fun e => absurd (h.r.lt g e) (by omega)
theorem St.pcall (h : St w cur S1 S2 T1 T2 bh bm H1 H2) (hN : HpN 73 87 T1 cur cur' bh H') : ∃ T1' : Nat → Prop, St w cur' S1 S2 T1' T2 bh bm H' H2 ∧ (∀ k, T1' k → T1 k ∨ cur.heap.size ≤ k) ∧ ButS T1 cur cur' := by
  obtain ⟨U1, T1', s, p'⟩ := hN.ex
  have hU : ButS (fun k => S1 k ∨ S2 k) w cur' := ⟨U1.os.trans h.U.os, U1.tape.trans h.U.tape, U1.output.trans h.U.output, Nat.le_trans h.U.size U1.size, fun k hk hn => (U1.block k (Nat.lt_of_lt_of_le hk h.U.size) fun e => (h.s1 k e).elim (fun e' => hn (.inl e')) fun e' => by omega).trans (h.U.block k hk hn)⟩
  exact ⟨T1', ⟨p', h.r.but U1 fun k e1 e2 => h.dj k e2 e1, fun k e => (s k e).elim (h.dj k) fun e' => h.out2 e', fun k e => (s k e).elim (h.s1 k) fun e' => .inr (Nat.le_trans h.U.size e'), h.s2, hU⟩, s, U1⟩
theorem St.rcall (h : St w cur S1 S2 T1 T2 bh bm H1 H2) (hN : HpN 30 80 T2 cur cur' bm H') : ∃ T2' : Nat → Prop, St w cur' S1 S2 T1 T2' bh bm H1 H' ∧ (∀ k, T2' k → T2 k ∨ cur.heap.size ≤ k) ∧ ButS T2 cur cur' := by
  obtain ⟨U1, T2', s, r'⟩ := hN.ex
  have hU : ButS (fun k => S1 k ∨ S2 k) w cur' := ⟨U1.os.trans h.U.os, U1.tape.trans h.U.tape, U1.output.trans h.U.output, Nat.le_trans h.U.size U1.size, fun k hk hn => (U1.block k (Nat.lt_of_lt_of_le hk h.U.size) fun e => (h.s2 k e).elim (fun e' => hn (.inr e')) fun e' => by omega).trans (h.U.block k hk hn)⟩
  exact ⟨T2', ⟨h.p.but U1 fun k e1 e2 => h.dj k e1 e2, r', fun k e e2 => (s k e2).elim (h.dj k e) fun e' => h.out1 e' e, h.s1, fun k e => (s k e).elim (h.s2 k) fun e' => .inr (Nat.le_trans h.U.size e'), hU⟩, s, U1⟩
end
/-- All its cells are numbers. -/
def OkH (H : Hm) : Prop := (∀ n ∈ H.ns, vc n.c.z.1 n.c.z.2 = true) ∧ ∀ p ∈ H.ps, vc p.1.z.1 p.1.z.2 = true ∧ vc p.2.z.1 p.2.z.2 = true
theorem isC_vc {nn np : Nat} {c : Cl} (h : isC nn np c = true) : vc c.z.1 c.z.2 = true := by
  have hz : zeroV c.z = true → vc c.z.1 c.z.2 = true := fun e => by
    rw [zeroV_eq] at e
    rw [of_decide_eq_true e]
    exact vc_zero
  unfold isC at h
  split at h
  · simp at h; exact h.1.1
  · split at h
    · simp at h; exact hz h.1
    · split at h
      · simp at h; exact hz h.1.1
      · split at h
        · simp at h; exact hz h.1.1
        · split at h
          · simp at h; exact hz h.1.1
          · cases h
theorem ok_get {H : Hm} (h : OkH H) (a : Int) : vc (lookP H a).1.c.z.1 (lookP H a).1.c.z.2 = true := by
  rcases look_cases H a with e | ⟨i, rfl, hi, e⟩
  · rw [e]; exact vc_zero
  · rw [e]
    dsimp only
    rw [List.getD_eq_getElem?_getD, List.getElem?_eq_getElem hi]
    exact h.1 _ (List.getElem_mem hi)
theorem ok_parts {H : Hm} (h : OkH H) (a : Int) : vc (partsP H a).1.1.z.1 (partsP H a).1.1.z.2 = true ∧ vc (partsP H a).1.2.z.1 (partsP H a).1.2.z.2 = true := by
  rcases parts_cases H a with ⟨_, e⟩ | ⟨i, rfl, hi, _, e⟩
  · rw [e]; exact ⟨vc_zero, vc_zero⟩
  · rw [e]
    dsimp only
    rw [List.getD_eq_getElem?_getD, List.getElem?_eq_getElem hi]
    exact h.2 _ (List.getElem_mem hi)
theorem ok_enter {H : Hm} (h : OkH H) (a : Int) : vc (enterP H a).1.1.c.z.1 (enterP H a).1.1.c.z.2 = true := by
  have := ok_get h a
  unfold enterP
  split
  · exact vc_zero
  · split
    · exact vc_zero
    · split
      · exact vc_zero
      · split <;> exact this
theorem ok_set {H : Hm} (h : OkH H) (i : Nat) {n : Nd} (hn : vc n.c.z.1 n.c.z.2 = true) (u : Nat) : OkH { H with ns := H.ns.set i n, up := u } := by
  refine ⟨fun m hm => ?_, h.2⟩
  rcases List.mem_or_eq_of_mem_set hm with e | e
  · exact h.1 m e
  · rw [e]; exact hn
theorem ok_app {H : Hm} (h : OkH H) {n : Nd} (hn : vc n.c.z.1 n.c.z.2 = true) (u : Nat) : OkH { H with ns := H.ns ++ [n], th := u } := by
  refine ⟨fun m hm => ?_, h.2⟩
  rcases List.mem_append.1 hm with e | e
  · exact h.1 m e
  · rw [List.mem_singleton.1 e]; exact hn
theorem ok_pair {H : Hm} (h : OkH H) (c d : Cl) : OkH (pairP H c d).2 := by
  unfold pairP
  split
  · next e =>
    rw [Bool.and_eq_true] at e
    refine ⟨h.1, fun p hp => ?_⟩
    rcases List.mem_append.1 hp with e' | e'
    · exact h.2 p e'
    · rw [List.mem_singleton.1 e']; exact ⟨isC_vc e.1, isC_vc e.2⟩
  · exact h
theorem ok_entered {H : Hm} (h : OkH H) (a : Int) : OkH (enterP H a).2 := by
  unfold enterP
  split
  · exact h
  · split
    · exact h
    · split
      · exact h
      · split
        · exact ok_set h _ vc_zero H.up
        · exact h
theorem ok_upd {H : Hm} (h : OkH H) (a : Int) (c : Cl) : OkH (updP H a c).2 := by
  unfold updP
  split
  · exact h
  · split
    · next e =>
      have := e.2
      rw [Bool.and_eq_true] at this
      exact ok_set h _ (isC_vc this.2) _
    · exact h
theorem sz_pair {H : Hm} {n : Nat} (h : Sz n H) (c d : Cl) : Sz (n + 1) (pairP H c d).2 := by
  unfold Sz at h
  unfold pairP
  split <;> (unfold Sz; simp only [List.length_append, List.length_singleton]; omega)
theorem sz_enter {H : Hm} {n : Nat} (h : Sz n H) (a : Int) : Sz (n + 1) (enterP H a).2 := by
  unfold Sz at h
  unfold enterP
  split
  · unfold Sz; simp only; omega
  · split
    · unfold Sz; simp only; omega
    · split
      · unfold Sz; simp only; omega
      · split <;> (unfold Sz; simp only [List.length_set]; omega)
theorem sz_upd {H : Hm} {n : Nat} (h : Sz n H) (a : Int) (c : Cl) : Sz (n + 1) (updP H a c).2 := by
  unfold Sz at h
  unfold updP
  split
  · unfold Sz; simp only; omega
  · split <;> (unfold Sz; simp only [List.length_set]; omega)
theorem sz_mono {H : Hm} {n : Nat} (h : Sz n H) : Sz (n + 1) H := by unfold Sz at h ⊢; omega
end Go.Proofs.Ytdbnlgjpfkfnjaa
