/-
  HeapApart: two heaps have nothing to do with one another.
-/
import Derived.Test.YtdbnlgjpfkfnjaaDy
namespace Go.Proofs.Ytdbnlgjpfkfnjaa
open Go.RowKit
open Go.Lib
set_option maxRecDepth 100000

/-- Two heaps and the document's two, apart from one another. -/
def Q4 (w cur : World) (h0 m0 h1 m1 gs gt : Nat) (Ha Hb : Hm) : Prop := ∃ A0 B0 A1 B1 : Nat → Prop,
  St cur cur A0 B0 A0 B0 h0 m0 Ha Ha ∧ St cur cur A1 B1 A1 B1 h1 m1 Hb Hb ∧ (∀ k, A0 k ∨ B0 k → ¬ (A1 k ∨ B1 k)) ∧ (∀ k, (A0 k ∨ B0 k) ∨ (A1 k ∨ B1 k) → w.heap.size ≤ k ∧ k ≠ gs ∧ k ≠ gt) ∧
  Bk cur gs 24 [.pointer (some ⟨h0, 0, none⟩), .pointer (some ⟨h1, 0, none⟩)] ∧ Bk cur gt 26 [.pointer (some ⟨m0, 0, none⟩), .pointer (some ⟨m1, 0, none⟩)] ∧ Below w.heap.size w cur
theorem Q4.swap {w cur : World} {h0 m0 h1 m1 gs gt : Nat} {Ha Hb : Hm} {A0 B0 A1 B1 : Nat → Prop} {n : Nat} {cur' : World} (_sa : St cur cur A0 B0 A0 B0 h0 m0 Ha Ha) (sb : St cur cur A1 B1 A1 B1 h1 m1 Hb Hb) (dj : ∀ k, A0 k ∨ B0 k → ¬ (A1 k ∨ B1 k)) (low : ∀ k, (A0 k ∨ B0 k) ∨ (A1 k ∨ B1 k) → w.heap.size ≤ k ∧ k ≠ gs ∧ k ≠ gt)
    (lg : gs < cur.heap.size) (lt : gt < cur.heap.size) (hb : Below w.heap.size w cur) (hp : StepP cur cur' A0 B0 h0 m0 n) :
    ∃ (H' : Hm) (T1 T2 : Nat → Prop), Sz (n + 1) H' ∧ OkH H' ∧ St cur' cur' T1 T2 T1 T2 h0 m0 H' H' ∧ St cur' cur' A1 B1 A1 B1 h1 m1 Hb Hb ∧ (∀ k, T1 k ∨ T2 k → ¬ (A1 k ∨ B1 k)) ∧ (∀ k, (T1 k ∨ T2 k) ∨ (A1 k ∨ B1 k) → w.heap.size ≤ k ∧ k ≠ gs ∧ k ≠ gt) ∧ ButS (fun k => A0 k ∨ B0 k) cur cur' ∧ Below w.heap.size w cur' := by
  obtain ⟨H', T1, T2, st, hz, ho⟩ := hp
  have hs := hb.size
  have old : ∀ k, T1 k ∨ T2 k → (A0 k ∨ B0 k) ∨ cur.heap.size ≤ k := fun k e => by
    rcases e with e | e
    · exact (st.s1 k e).elim (fun e' => .inl (.inl e')) .inr
    · exact (st.s2 k e).elim (fun e' => .inl (.inr e')) .inr
  refine ⟨H', T1, T2, hz, ho, St.start st.p st.r st.dj, St.start (sb.p.but st.U fun k e1 e2 => dj k e2 (.inl e1)) (sb.r.but st.U fun k e1 e2 => dj k e2 (.inr e1)) sb.dj, fun k e e2 => ?_, fun k e => ?_, st.U, hb.trans (st.U.toBelow hs fun k e => (low k (.inl e)).1)⟩
  · rcases old k e with e' | e'
    · exact dj k e' e2
    · rcases e2 with e2 | e2
      · exact sb.out1 e' e2
      · exact sb.out2 e' e2
  · rcases e with e | e
    · rcases old k e with e' | e'
      · exact low k (.inl e')
      · exact ⟨by omega, by omega, by omega⟩
    · exact low k (.inr e)
theorem Q4.step0 {w cur cur' : World} {h0 m0 h1 m1 gs gt n : Nat} {Ha Hb : Hm} {A0 B0 A1 B1 : Nat → Prop} (sa : St cur cur A0 B0 A0 B0 h0 m0 Ha Ha) (sb : St cur cur A1 B1 A1 B1 h1 m1 Hb Hb) (dj : ∀ k, A0 k ∨ B0 k → ¬ (A1 k ∨ B1 k)) (low : ∀ k, (A0 k ∨ B0 k) ∨ (A1 k ∨ B1 k) → w.heap.size ≤ k ∧ k ≠ gs ∧ k ≠ gt)
    (kg : Bk cur gs 24 [.pointer (some ⟨h0, 0, none⟩), .pointer (some ⟨h1, 0, none⟩)]) (kt : Bk cur gt 26 [.pointer (some ⟨m0, 0, none⟩), .pointer (some ⟨m1, 0, none⟩)]) (hb : Below w.heap.size w cur) (hp : StepP cur cur' A0 B0 h0 m0 n) : ∃ H', Sz (n + 1) H' ∧ OkH H' ∧ Q4 w cur' h0 m0 h1 m1 gs gt H' Hb := by
  obtain ⟨H', T1, T2, hz, ho, sa', sb', dj', low', U, hb'⟩ := Q4.swap sa sb dj low kg.lt kt.lt hb hp
  exact ⟨H', hz, ho, T1, T2, A1, B1, sa', sb', dj', low', U.bk kg fun e => (low gs (.inl e)).2.1 rfl, U.bk kt fun e => (low gt (.inl e)).2.2 rfl, hb'⟩
theorem Q4.step1 {w cur cur' : World} {h0 m0 h1 m1 gs gt n : Nat} {Ha Hb : Hm} {A0 B0 A1 B1 : Nat → Prop} (sa : St cur cur A0 B0 A0 B0 h0 m0 Ha Ha) (sb : St cur cur A1 B1 A1 B1 h1 m1 Hb Hb) (dj : ∀ k, A0 k ∨ B0 k → ¬ (A1 k ∨ B1 k)) (low : ∀ k, (A0 k ∨ B0 k) ∨ (A1 k ∨ B1 k) → w.heap.size ≤ k ∧ k ≠ gs ∧ k ≠ gt)
    (kg : Bk cur gs 24 [.pointer (some ⟨h0, 0, none⟩), .pointer (some ⟨h1, 0, none⟩)]) (kt : Bk cur gt 26 [.pointer (some ⟨m0, 0, none⟩), .pointer (some ⟨m1, 0, none⟩)]) (hb : Below w.heap.size w cur) (hp : StepP cur cur' A1 B1 h1 m1 n) : ∃ H', Sz (n + 1) H' ∧ OkH H' ∧ Q4 w cur' h0 m0 h1 m1 gs gt Ha H' := by
  obtain ⟨H', T1, T2, hz, ho, sb', sa', dj', low', U, hb'⟩ := Q4.swap (gs := gs) (gt := gt) sb sa (fun k e1 e2 => dj k e2 e1) (fun k e => low k e.symm) kg.lt kt.lt hb hp
  exact ⟨H', hz, ho, A0, B0, T1, T2, sa', sb', fun k e1 e2 => dj' k e2 e1, fun k e => low' k e.symm, U.bk kg fun e => (low gs (.inr e)).2.1 rfl, U.bk kt fun e => (low gt (.inr e)).2.2 rfl, hb'⟩
/-- A slice of bools, as it lies. -/
structure Bs (w : World) (ao : Option Addr) (ts : List Bool) : Prop where
  pl : ts ≠ [] → ∃ b off, ao = some ⟨b, off, none⟩ ∧ ∀ i, i < ts.length → w.cell? ⟨b, off + i, none⟩ = some (.bool (ts.getD i false))
theorem Bs.keep {w w' : World} {ao : Option Addr} {ts : List Bool} (h : Bs w ao ts) (hb : Below w.heap.size w w') : Bs w' ao ts := ⟨fun hne => by
  obtain ⟨b, off, e, hr⟩ := h.pl hne
  refine ⟨b, off, e, fun i hi => ?_⟩
  rw [← hr i hi]
  exact World.cell?_of_block (hb.block b (cell_lt (hr i hi)))⟩

theorem ak_rng {w X : World} {b o : Nat} {q : Ak} (hX : Below w.heap.size w X) (h : w.rangeAt b o (akC q)) : ∀ j v, (akC q)[j]? = some v → X.cell? ⟨b, o + j, none⟩ = some v := fun j v hj => by
  rw [← h j v hj]
  exact World.cell?_of_block (hX.block b (cell_lt (h j v hj)))
theorem q4_S0 {w X : World} {h0 m0 h1 m1 gs gt b off k : Nat} {q : Ak} {Ha Hb : Hm} (hq : Q4 w X h0 m0 h1 m1 gs gt Ha Hb) (h : w.rangeAt b (off + k * 14) (akC q)) : X.cell? ⟨gs, 0, none⟩ = some (.pointer (some ⟨h0, 0, none⟩)) ∧ X.cell? ⟨gt, 0, none⟩ = some (.pointer (some ⟨m0, 0, none⟩)) ∧ X.cell? ⟨b, off + k * 14, none⟩ = some (.int .i64 q.k) ∧ X.cell? ⟨b, off + k * 14 + 1, none⟩ = some (.int .i64 q.a) ∧ X.cell? ⟨b, off + k * 14 + 2, none⟩ = some (.int .i64 q.c.k) ∧ X.cell? ⟨b, off + k * 14 + 3, none⟩ = some (.int .i64 q.c.a) ∧ X.cell? ⟨b, off + k * 14 + 4, none⟩ = some (.int .i64 q.c.x) ∧ X.cell? ⟨b, off + k * 14 + 5, none⟩ = some (.int .i64 q.c.y) ∧ X.cell? ⟨b, off + k * 14 + 6, none⟩ = some (.bool q.c.r) ∧ X.cell? ⟨b, off + k * 14 + 7, none⟩ = some (.bool q.c.b) ∧ X.cell? ⟨b, off + k * 14 + 8, none⟩ = some (.int .i64 q.d.k) ∧ X.cell? ⟨b, off + k * 14 + 9, none⟩ = some (.int .i64 q.d.a) ∧ X.cell? ⟨b, off + k * 14 + 10, none⟩ = some (.int .i64 q.d.x) ∧ X.cell? ⟨b, off + k * 14 + 11, none⟩ = some (.int .i64 q.d.y) ∧ X.cell? ⟨b, off + k * 14 + 12, none⟩ = some (.bool q.d.r) ∧ X.cell? ⟨b, off + k * 14 + 13, none⟩ = some (.bool q.d.b) := by
  obtain ⟨_, _, _, _, _, _, _, _, kg, kt, bw⟩ := hq
  have r := ak_rng bw h
  exact ⟨kg.cell 0, kt.cell 0, r 0 _ rfl, r 1 _ rfl, r 2 _ rfl, r 3 _ rfl, r 4 _ rfl, r 5 _ rfl, r 6 _ rfl, r 7 _ rfl, r 8 _ rfl, r 9 _ rfl, r 10 _ rfl, r 11 _ rfl, r 12 _ rfl, r 13 _ rfl⟩
theorem q4_S1 {w X : World} {h0 m0 h1 m1 gs gt b off k : Nat} {q : Ak} {Ha Hb : Hm} (hq : Q4 w X h0 m0 h1 m1 gs gt Ha Hb) (h : w.rangeAt b (off + k * 14) (akC q)) : X.cell? ⟨gs, 1, none⟩ = some (.pointer (some ⟨h1, 0, none⟩)) ∧ X.cell? ⟨gt, 1, none⟩ = some (.pointer (some ⟨m1, 0, none⟩)) ∧ X.cell? ⟨b, off + k * 14, none⟩ = some (.int .i64 q.k) ∧ X.cell? ⟨b, off + k * 14 + 1, none⟩ = some (.int .i64 q.a) ∧ X.cell? ⟨b, off + k * 14 + 2, none⟩ = some (.int .i64 q.c.k) ∧ X.cell? ⟨b, off + k * 14 + 3, none⟩ = some (.int .i64 q.c.a) ∧ X.cell? ⟨b, off + k * 14 + 4, none⟩ = some (.int .i64 q.c.x) ∧ X.cell? ⟨b, off + k * 14 + 5, none⟩ = some (.int .i64 q.c.y) ∧ X.cell? ⟨b, off + k * 14 + 6, none⟩ = some (.bool q.c.r) ∧ X.cell? ⟨b, off + k * 14 + 7, none⟩ = some (.bool q.c.b) ∧ X.cell? ⟨b, off + k * 14 + 8, none⟩ = some (.int .i64 q.d.k) ∧ X.cell? ⟨b, off + k * 14 + 9, none⟩ = some (.int .i64 q.d.a) ∧ X.cell? ⟨b, off + k * 14 + 10, none⟩ = some (.int .i64 q.d.x) ∧ X.cell? ⟨b, off + k * 14 + 11, none⟩ = some (.int .i64 q.d.y) ∧ X.cell? ⟨b, off + k * 14 + 12, none⟩ = some (.bool q.d.r) ∧ X.cell? ⟨b, off + k * 14 + 13, none⟩ = some (.bool q.d.b) := by
  obtain ⟨_, _, _, _, _, _, _, _, kg, kt, bw⟩ := hq
  have r := ak_rng bw h
  exact ⟨kg.cell 1, kt.cell 1, r 0 _ rfl, r 1 _ rfl, r 2 _ rfl, r 3 _ rfl, r 4 _ rfl, r 5 _ rfl, r 6 _ rfl, r 7 _ rfl, r 8 _ rfl, r 9 _ rfl, r 10 _ rfl, r 11 _ rfl, r 12 _ rfl, r 13 _ rfl⟩
theorem q4_start {w w3 : World} {h0 h1 : Nat} (hb : Below w.heap.size w w3) (p : HpW 73 87 (· = h0) w3 h0 hm0) (p' : HpW 73 87 (· = h1) w3 h1 hm0) (hne : h0 ≠ h1) (l0 : w.heap.size ≤ h0) (l1 : w.heap.size ≤ h1) :
    Q4 w ((((w3.alloc (.cells #[.pointer (some ⟨h0, 0, none⟩), .pointer (some ⟨h1, 0, none⟩)] 24)).alloc (.cells #[.slice none 0 0, .slice none 0 0, .int .i64 0, .int .i64 0] 30)).alloc (.cells #[.slice none 0 0, .slice none 0 0, .int .i64 0, .int .i64 0] 30)).alloc (.cells #[.pointer (some ⟨(w3.heap.size + 1), 0, none⟩), .pointer (some ⟨(w3.heap.size + 1 + 1), 0, none⟩)] 26)) h0 (w3.heap.size + 1) h1 (w3.heap.size + 1 + 1) w3.heap.size (w3.heap.size + 1 + 1 + 1) hm0 hm0 := by
  have k0 := p.lt _ rfl
  have k1 := p'.lt _ rfl
  have hs := hb.size
  have g4 := Bk.new w3 24 #[.pointer (some ⟨h0, 0, none⟩), .pointer (some ⟨h1, 0, none⟩)]
  have v4 := below_alloc w3 (.cells #[.pointer (some ⟨h0, 0, none⟩), .pointer (some ⟨h1, 0, none⟩)] 24)
  have e4 : (w3.alloc (.cells #[.pointer (some ⟨h0, 0, none⟩), .pointer (some ⟨h1, 0, none⟩)] 24)).heap.size = w3.heap.size + 1 := by simp
  generalize w3.alloc (.cells #[.pointer (some ⟨h0, 0, none⟩), .pointer (some ⟨h1, 0, none⟩)] 24) = w4 at *
  have r5 : HpW 30 80 (· = w4.heap.size) (w4.alloc (.cells #[.slice none 0 0, .slice none 0 0, .int .i64 0, .int .i64 0] 30)) w4.heap.size hm0 := hpNew
  have v5 := below_alloc w4 (.cells #[.slice none 0 0, .slice none 0 0, .int .i64 0, .int .i64 0] 30)
  have e5 : (w4.alloc (.cells #[.slice none 0 0, .slice none 0 0, .int .i64 0, .int .i64 0] 30)).heap.size = w4.heap.size + 1 := by simp
  generalize w4.alloc (.cells #[.slice none 0 0, .slice none 0 0, .int .i64 0, .int .i64 0] 30) = w5 at *
  have r6 : HpW 30 80 (· = w5.heap.size) (w5.alloc (.cells #[.slice none 0 0, .slice none 0 0, .int .i64 0, .int .i64 0] 30)) w5.heap.size hm0 := hpNew
  have v6 := below_alloc w5 (.cells #[.slice none 0 0, .slice none 0 0, .int .i64 0, .int .i64 0] 30)
  have e6 : (w5.alloc (.cells #[.slice none 0 0, .slice none 0 0, .int .i64 0, .int .i64 0] 30)).heap.size = w5.heap.size + 1 := by simp
  generalize w5.alloc (.cells #[.slice none 0 0, .slice none 0 0, .int .i64 0, .int .i64 0] 30) = w6 at *
  have g7 := Bk.new w6 26 #[.pointer (some ⟨(w3.heap.size + 1), 0, none⟩), .pointer (some ⟨(w3.heap.size + 1 + 1), 0, none⟩)]
  have v7 := below_alloc w6 (.cells #[.pointer (some ⟨(w3.heap.size + 1), 0, none⟩), .pointer (some ⟨(w3.heap.size + 1 + 1), 0, none⟩)] 26)
  generalize w6.alloc (.cells #[.pointer (some ⟨(w3.heap.size + 1), 0, none⟩), .pointer (some ⟨(w3.heap.size + 1 + 1), 0, none⟩)] 26) = w7 at *
  rw [e6, e5, e4] at g7
  rw [e5, e4] at r6
  rw [e4] at r5
  refine ⟨(· = h0), (· = w3.heap.size + 1), (· = h1), (· = w3.heap.size + 1 + 1), St.start ((((p.up v4).up v5).up v6).up v7) ((r5.up v6).up v7) (fun k a b => by omega), St.start ((((p'.up v4).up v5).up v6).up v7) (r6.up v7) (fun k a b => by omega), fun k a b => by omega, fun k a => by omega, ((g4.up v5).up v6).up v7, g7, Below.thn (Below.thn (Below.thn (Below.thn hb v4) v5) v6) v7⟩

set_option maxHeartbeats 8000000 in
theorem heapApart_any {w : World} {ao : Option Addr} {cap : Nat} {qs : List Ak} (hs : Sc w ao qs) (_hc : qs.length ≤ cap) (_hm : cap ≤ maxLen) (hn : qs.length < 1260000000000) {bo : Option Addr} {cb : Nat} {ts : List Bool} (ht : Bs w bo ts) (_hcb : ts.length ≤ cb) (_hmb : cb ≤ maxLen) :
    Calls Try.prog 4 #[.slice ao qs.length cap, .slice bo ts.length cb] w fun e w' => e = .returned (.bool true) ∧ Below w.heap.size w w' := by
  have HS : Hid (Sc w ao qs) := hs
  have HB : Hid (Bs w bo ts) := ht
  clear hs ht
  go_enter Try.func4, Try.ntmps4
  go_wp2_with fail
  refine (awake13_any _).mono ?_
  rintro e w1 ⟨rfl, u1⟩
  go_wp2_with fail
  refine (new_any _).mono ?_
  rintro e w2 ⟨rfl, hw2⟩
  have p2 : HpW 73 87 (· = w1.heap.size) w2 w1.heap.size hm0 := by rw [hw2]; exact hpNew
  have u2 : Below w1.heap.size w1 w2 := by rw [hw2]; exact below_alloc _ _
  have l2 : w1.heap.size < w2.heap.size := p2.lt _ rfl
  clear hw2
  go_wp2_with fail
  refine (new_any _).mono ?_
  rintro e w3 ⟨rfl, hw3⟩
  have p3 : HpW 73 87 (· = w2.heap.size) w3 w2.heap.size hm0 := by rw [hw3]; exact hpNew
  have u3 : Below w2.heap.size w2 w3 := by rw [hw3]; exact below_alloc _ _
  have s1 := u1.size
  have q := q4_start (Below.thn (Below.thn u1 u2) u3) (p2.up u3) p3 (by omega) (by omega) (by omega)
  clear hw3 p2 p3 u1 u2 u3
  have HQ : Hid (Q4 _ _ _ _ _ _ _ _ _ _) := q
  clear q
  go_upto_region 5 with fail
  generalize (((w3.alloc (.cells #[.pointer (some ⟨w1.heap.size, 0, none⟩), .pointer (some ⟨w2.heap.size, 0, none⟩)] 24)).alloc (.cells #[.slice none 0 0, .slice none 0 0, .int .i64 0, .int .i64 0] 30)).alloc (.cells #[.slice none 0 0, .slice none 0 0, .int .i64 0, .int .i64 0] 30)).alloc (.cells #[.pointer (some ⟨(w3.heap.size + 1), 0, none⟩), .pointer (some ⟨(w3.heap.size + 1 + 1), 0, none⟩)] 26) = w7 at *
  generalize w3.heap.size + 1 + 1 + 1 = gt at *
  generalize w3.heap.size + 1 + 1 = m1 at *
  generalize w3.heap.size + 1 = m0 at *
  generalize w3.heap.size = gs at *
  generalize w1.heap.size = h0 at *
  generalize w2.heap.size = h1 at *
  go_wp2_with fail
  go_loopw [7] (fun v wr => ∃ (k : Nat) (Ha Hb : Hm), k ≤ qs.length ∧ v = .int .i64 k ∧ Q4 w wr h0 m0 h1 m1 gs gt Ha Hb ∧ Sz k Ha ∧ OkH Ha ∧ Sz k Hb ∧ OkH Hb) (fun v _ => qs.length - (intOf v).toNat)
  case atStart => exact ⟨0, hm0, hm0, Nat.zero_le _, rfl, HQ.out, ⟨Nat.le_refl _, Nat.le_refl _, Nat.le_refl _, Nat.le_refl _⟩, ⟨fun n hn => by simp [hm0] at hn, fun n hn => by simp [hm0] at hn⟩, ⟨Nat.le_refl _, Nat.le_refl _, Nat.le_refl _, Nat.le_refl _⟩, fun n hn => by simp [hm0] at hn, fun n hn => by simp [hm0] at hn⟩
  case round =>
    obtain ⟨k, Ha, Hb, hkn, rfl, ⟨A0, B0, A1, B1, sa, sb, dj, low, kg, kt, bw⟩, za, oa, zb, ob⟩ := hrel
    have d := (Below.refl wr.heap.size wr).drew
    have HSa : Hid (St wr wr A0 B0 A0 B0 h0 m0 Ha Ha) := sa
    have HSb : Hid (St wr wr A1 B1 A1 B1 h1 m1 Hb Hb) := sb
    have HZa : Hid (Sz k Ha) := za
    have HZb : Hid (Sz k Hb) := zb
    have HOa : Hid (OkH Ha) := oa
    have HOb : Hid (OkH Hb) := ob
    have g0 : wr.cell? ⟨gs, 0, none⟩ = some (.pointer (some ⟨h0, 0, none⟩)) := kg.cell 0
    have g1 : wr.cell? ⟨gs, 1, none⟩ = some (.pointer (some ⟨h1, 0, none⟩)) := kg.cell 1
    have t0 : wr.cell? ⟨gt, 0, none⟩ = some (.pointer (some ⟨m0, 0, none⟩)) := kt.cell 0
    have t1 : wr.cell? ⟨gt, 1, none⟩ = some (.pointer (some ⟨m1, 0, none⟩)) := kt.cell 1
    by_cases hlt : k < qs.length
    · have hne : qs ≠ [] := fun e => by rw [e] at hlt; simp at hlt
      obtain ⟨b, off, rfl, hr0⟩ := HS.out.pl hne
      have hr := hr0 k hlt
      clear hr0
      generalize qs.getD k ⟨0, 0, ⟨0, 0, 0, 0, false, false⟩, ⟨0, 0, 0, 0, false, false⟩⟩ = q at hr
      have HW : Hid (w.rangeAt b (off + k * 14) (akC q)) := hr
      have HC0 : Hid (Calls Try.prog 9 #[.pointer (some ⟨h0, 0, none⟩), .pointer (some ⟨m0, 0, none⟩), akV q] wr.drew fun e w' => e = .returned (.bool true) ∧ StepP wr.drew w' A0 B0 h0 m0 k) := step_any (St.start (sa.p.up d) (sa.r.up d) sa.dj) za oa (by omega) q
      have HC1 : Hid (Calls Try.prog 9 #[.pointer (some ⟨h1, 0, none⟩), .pointer (some ⟨m1, 0, none⟩), akV q] wr.drew fun e w' => e = .returned (.bool true) ∧ StepP wr.drew w' A1 B1 h1 m1 k) := step_any (St.start (sb.p.up d) (sb.r.up d) sb.dj) zb ob (by omega) q
      have HD0 : Hid (∀ w', StepP wr.drew w' A0 B0 h0 m0 k → ∃ H', Sz (k + 1) H' ∧ OkH H' ∧ Q4 w w' h0 m0 h1 m1 gs gt H' Hb) := fun w' hp => Q4.step0 (St.start (sa.p.up d) (sa.r.up d) sa.dj) (St.start (sb.p.up d) (sb.r.up d) sb.dj) dj low (kg.up d) (kt.up d) bw.drew hp
      have HD1 : Hid (∀ w', StepP wr.drew w' A1 B1 h1 m1 k → ∃ H', Sz (k + 1) H' ∧ OkH H' ∧ Q4 w w' h0 m0 h1 m1 gs gt Ha H') := fun w' hp => Q4.step1 (St.start (sa.p.up d) (sa.r.up d) sa.dj) (St.start (sb.p.up d) (sb.r.up d) sb.dj) dj low (kg.up d) (kt.up d) bw.drew hp
      have j0 : wr.drew.cell? ⟨gs, 0, none⟩ = some (.pointer (some ⟨h0, 0, none⟩)) ∧ wr.drew.cell? ⟨gt, 0, none⟩ = some (.pointer (some ⟨m0, 0, none⟩)) ∧ wr.drew.cell? ⟨b, off + k * 14, none⟩ = some (.int .i64 q.k) ∧ wr.drew.cell? ⟨b, off + k * 14 + 1, none⟩ = some (.int .i64 q.a) ∧ wr.drew.cell? ⟨b, off + k * 14 + 2, none⟩ = some (.int .i64 q.c.k) ∧ wr.drew.cell? ⟨b, off + k * 14 + 3, none⟩ = some (.int .i64 q.c.a) ∧ wr.drew.cell? ⟨b, off + k * 14 + 4, none⟩ = some (.int .i64 q.c.x) ∧ wr.drew.cell? ⟨b, off + k * 14 + 5, none⟩ = some (.int .i64 q.c.y) ∧ wr.drew.cell? ⟨b, off + k * 14 + 6, none⟩ = some (.bool q.c.r) ∧ wr.drew.cell? ⟨b, off + k * 14 + 7, none⟩ = some (.bool q.c.b) ∧ wr.drew.cell? ⟨b, off + k * 14 + 8, none⟩ = some (.int .i64 q.d.k) ∧ wr.drew.cell? ⟨b, off + k * 14 + 9, none⟩ = some (.int .i64 q.d.a) ∧ wr.drew.cell? ⟨b, off + k * 14 + 10, none⟩ = some (.int .i64 q.d.x) ∧ wr.drew.cell? ⟨b, off + k * 14 + 11, none⟩ = some (.int .i64 q.d.y) ∧ wr.drew.cell? ⟨b, off + k * 14 + 12, none⟩ = some (.bool q.d.r) ∧ wr.drew.cell? ⟨b, off + k * 14 + 13, none⟩ = some (.bool q.d.b) := q4_S0 (Ha := Ha) (Hb := Hb) ⟨A0, B0, A1, B1, St.start (sa.p.up d) (sa.r.up d) sa.dj, St.start (sb.p.up d) (sb.r.up d) sb.dj, dj, low, kg.up d, kt.up d, bw.drew⟩ hr
      have j1 : wr.drew.cell? ⟨gs, 1, none⟩ = some (.pointer (some ⟨h1, 0, none⟩)) ∧ wr.drew.cell? ⟨gt, 1, none⟩ = some (.pointer (some ⟨m1, 0, none⟩)) ∧ wr.drew.cell? ⟨b, off + k * 14, none⟩ = some (.int .i64 q.k) ∧ wr.drew.cell? ⟨b, off + k * 14 + 1, none⟩ = some (.int .i64 q.a) ∧ wr.drew.cell? ⟨b, off + k * 14 + 2, none⟩ = some (.int .i64 q.c.k) ∧ wr.drew.cell? ⟨b, off + k * 14 + 3, none⟩ = some (.int .i64 q.c.a) ∧ wr.drew.cell? ⟨b, off + k * 14 + 4, none⟩ = some (.int .i64 q.c.x) ∧ wr.drew.cell? ⟨b, off + k * 14 + 5, none⟩ = some (.int .i64 q.c.y) ∧ wr.drew.cell? ⟨b, off + k * 14 + 6, none⟩ = some (.bool q.c.r) ∧ wr.drew.cell? ⟨b, off + k * 14 + 7, none⟩ = some (.bool q.c.b) ∧ wr.drew.cell? ⟨b, off + k * 14 + 8, none⟩ = some (.int .i64 q.d.k) ∧ wr.drew.cell? ⟨b, off + k * 14 + 9, none⟩ = some (.int .i64 q.d.a) ∧ wr.drew.cell? ⟨b, off + k * 14 + 10, none⟩ = some (.int .i64 q.d.x) ∧ wr.drew.cell? ⟨b, off + k * 14 + 11, none⟩ = some (.int .i64 q.d.y) ∧ wr.drew.cell? ⟨b, off + k * 14 + 12, none⟩ = some (.bool q.d.r) ∧ wr.drew.cell? ⟨b, off + k * 14 + 13, none⟩ = some (.bool q.d.b) := q4_S1 (Ha := Ha) (Hb := Hb) ⟨A0, B0, A1, B1, St.start (sa.p.up d) (sa.r.up d) sa.dj, St.start (sb.p.up d) (sb.r.up d) sb.dj, dj, low, kg.up d, kt.up d, bw.drew⟩ hr
      by_cases hkt : k < ts.length
      · have hne2 : ts ≠ [] := fun e => by rw [e] at hkt; simp at hkt
        obtain ⟨b', off', rfl, hv0⟩ := (HB.out.keep bw).pl hne2
        have hv := hv0 k hkt
        clear hv0
        clear sa sb dj low kg kt za zb oa ob hr d bw
        cases hb9 : ts.getD k false with
        | true =>
          rw [hb9] at hv
          clear hb9
          go_upto_region 11 with fail
          go_cut [48] (fun x wx => x = .bool false ∧ ∃ Ha Hb, Q4 w wx h0 m0 h1 m1 gs gt Ha Hb ∧ Sz (k + 1) Ha ∧ OkH Ha ∧ Sz (k + 1) Hb ∧ OkH Hb)
          case first =>
            go_region_held3 (fun X => X.cell? ⟨gs, 1, none⟩ = some (.pointer (some ⟨h1, 0, none⟩)) ∧ X.cell? ⟨gt, 1, none⟩ = some (.pointer (some ⟨m1, 0, none⟩)) ∧ X.cell? ⟨b, off + k * 14, none⟩ = some (.int .i64 q.k) ∧ X.cell? ⟨b, off + k * 14 + 1, none⟩ = some (.int .i64 q.a) ∧ X.cell? ⟨b, off + k * 14 + 2, none⟩ = some (.int .i64 q.c.k) ∧ X.cell? ⟨b, off + k * 14 + 3, none⟩ = some (.int .i64 q.c.a) ∧ X.cell? ⟨b, off + k * 14 + 4, none⟩ = some (.int .i64 q.c.x) ∧ X.cell? ⟨b, off + k * 14 + 5, none⟩ = some (.int .i64 q.c.y) ∧ X.cell? ⟨b, off + k * 14 + 6, none⟩ = some (.bool q.c.r) ∧ X.cell? ⟨b, off + k * 14 + 7, none⟩ = some (.bool q.c.b) ∧ X.cell? ⟨b, off + k * 14 + 8, none⟩ = some (.int .i64 q.d.k) ∧ X.cell? ⟨b, off + k * 14 + 9, none⟩ = some (.int .i64 q.d.a) ∧ X.cell? ⟨b, off + k * 14 + 10, none⟩ = some (.int .i64 q.d.x) ∧ X.cell? ⟨b, off + k * 14 + 11, none⟩ = some (.int .i64 q.d.y) ∧ X.cell? ⟨b, off + k * 14 + 12, none⟩ = some (.bool q.d.r) ∧ X.cell? ⟨b, off + k * 14 + 13, none⟩ = some (.bool q.d.b)) (first | with_reducible exact j1 | with_reducible assumption)
              (first | (go_at_call 9; refine HC1.out.mono ?_; rintro e w5 ⟨rfl, hp5⟩; obtain ⟨H', z5, o5, Q5⟩ := HD1.out _ hp5; have k5 : w5.cell? ⟨gs, 1, none⟩ = some (.pointer (some ⟨h1, 0, none⟩)) ∧ w5.cell? ⟨gt, 1, none⟩ = some (.pointer (some ⟨m1, 0, none⟩)) ∧ w5.cell? ⟨b, off + k * 14, none⟩ = some (.int .i64 q.k) ∧ w5.cell? ⟨b, off + k * 14 + 1, none⟩ = some (.int .i64 q.a) ∧ w5.cell? ⟨b, off + k * 14 + 2, none⟩ = some (.int .i64 q.c.k) ∧ w5.cell? ⟨b, off + k * 14 + 3, none⟩ = some (.int .i64 q.c.a) ∧ w5.cell? ⟨b, off + k * 14 + 4, none⟩ = some (.int .i64 q.c.x) ∧ w5.cell? ⟨b, off + k * 14 + 5, none⟩ = some (.int .i64 q.c.y) ∧ w5.cell? ⟨b, off + k * 14 + 6, none⟩ = some (.bool q.c.r) ∧ w5.cell? ⟨b, off + k * 14 + 7, none⟩ = some (.bool q.c.b) ∧ w5.cell? ⟨b, off + k * 14 + 8, none⟩ = some (.int .i64 q.d.k) ∧ w5.cell? ⟨b, off + k * 14 + 9, none⟩ = some (.int .i64 q.d.a) ∧ w5.cell? ⟨b, off + k * 14 + 10, none⟩ = some (.int .i64 q.d.x) ∧ w5.cell? ⟨b, off + k * 14 + 11, none⟩ = some (.int .i64 q.d.y) ∧ w5.cell? ⟨b, off + k * 14 + 12, none⟩ = some (.bool q.d.r) ∧ w5.cell? ⟨b, off + k * 14 + 13, none⟩ = some (.bool q.d.b) := q4_S1 Q5 HW.out))
            all_goals
              clear j0 j1 k5
              go_wp2_with fail
              go_meet
              case rel => exact ⟨rfl, Ha, H', Q5, sz_mono HZa.out, HOa.out, z5, o5⟩
          case rest =>
            obtain ⟨rfl, Ha', Hb', Q5, y1, y2, y3, y4⟩ := hcut
            have HQ5 : Hid (Q4 _ _ _ _ _ _ _ _ _ _) := Q5
            clear Q5 j0 j1 HC0 HC1 HD0 HD1
            go_wp2_with fail
            go_roundw
            case rel => exact ⟨k + 1, Ha', Hb', by omega, by go_num, HQ5.out, y1, y2, y3, y4⟩
            case measure => simp [intOf]; omega
        | false =>
          rw [hb9] at hv
          clear hb9
          go_upto_region 11 with fail
          go_cut [48] (fun x wx => x = .bool false ∧ ∃ Ha Hb, Q4 w wx h0 m0 h1 m1 gs gt Ha Hb ∧ Sz (k + 1) Ha ∧ OkH Ha ∧ Sz (k + 1) Hb ∧ OkH Hb)
          case first =>
            go_region_held3 (fun X => X.cell? ⟨gs, 0, none⟩ = some (.pointer (some ⟨h0, 0, none⟩)) ∧ X.cell? ⟨gt, 0, none⟩ = some (.pointer (some ⟨m0, 0, none⟩)) ∧ X.cell? ⟨b, off + k * 14, none⟩ = some (.int .i64 q.k) ∧ X.cell? ⟨b, off + k * 14 + 1, none⟩ = some (.int .i64 q.a) ∧ X.cell? ⟨b, off + k * 14 + 2, none⟩ = some (.int .i64 q.c.k) ∧ X.cell? ⟨b, off + k * 14 + 3, none⟩ = some (.int .i64 q.c.a) ∧ X.cell? ⟨b, off + k * 14 + 4, none⟩ = some (.int .i64 q.c.x) ∧ X.cell? ⟨b, off + k * 14 + 5, none⟩ = some (.int .i64 q.c.y) ∧ X.cell? ⟨b, off + k * 14 + 6, none⟩ = some (.bool q.c.r) ∧ X.cell? ⟨b, off + k * 14 + 7, none⟩ = some (.bool q.c.b) ∧ X.cell? ⟨b, off + k * 14 + 8, none⟩ = some (.int .i64 q.d.k) ∧ X.cell? ⟨b, off + k * 14 + 9, none⟩ = some (.int .i64 q.d.a) ∧ X.cell? ⟨b, off + k * 14 + 10, none⟩ = some (.int .i64 q.d.x) ∧ X.cell? ⟨b, off + k * 14 + 11, none⟩ = some (.int .i64 q.d.y) ∧ X.cell? ⟨b, off + k * 14 + 12, none⟩ = some (.bool q.d.r) ∧ X.cell? ⟨b, off + k * 14 + 13, none⟩ = some (.bool q.d.b)) (first | with_reducible exact j0 | with_reducible assumption)
              (first | (go_at_call 9; refine HC0.out.mono ?_; rintro e w5 ⟨rfl, hp5⟩; obtain ⟨H', z5, o5, Q5⟩ := HD0.out _ hp5; have k5 : w5.cell? ⟨gs, 0, none⟩ = some (.pointer (some ⟨h0, 0, none⟩)) ∧ w5.cell? ⟨gt, 0, none⟩ = some (.pointer (some ⟨m0, 0, none⟩)) ∧ w5.cell? ⟨b, off + k * 14, none⟩ = some (.int .i64 q.k) ∧ w5.cell? ⟨b, off + k * 14 + 1, none⟩ = some (.int .i64 q.a) ∧ w5.cell? ⟨b, off + k * 14 + 2, none⟩ = some (.int .i64 q.c.k) ∧ w5.cell? ⟨b, off + k * 14 + 3, none⟩ = some (.int .i64 q.c.a) ∧ w5.cell? ⟨b, off + k * 14 + 4, none⟩ = some (.int .i64 q.c.x) ∧ w5.cell? ⟨b, off + k * 14 + 5, none⟩ = some (.int .i64 q.c.y) ∧ w5.cell? ⟨b, off + k * 14 + 6, none⟩ = some (.bool q.c.r) ∧ w5.cell? ⟨b, off + k * 14 + 7, none⟩ = some (.bool q.c.b) ∧ w5.cell? ⟨b, off + k * 14 + 8, none⟩ = some (.int .i64 q.d.k) ∧ w5.cell? ⟨b, off + k * 14 + 9, none⟩ = some (.int .i64 q.d.a) ∧ w5.cell? ⟨b, off + k * 14 + 10, none⟩ = some (.int .i64 q.d.x) ∧ w5.cell? ⟨b, off + k * 14 + 11, none⟩ = some (.int .i64 q.d.y) ∧ w5.cell? ⟨b, off + k * 14 + 12, none⟩ = some (.bool q.d.r) ∧ w5.cell? ⟨b, off + k * 14 + 13, none⟩ = some (.bool q.d.b) := q4_S0 Q5 HW.out))
            all_goals
              clear j0 j1 k5
              go_wp2_with fail
              go_meet
              case rel => exact ⟨rfl, H', Hb, Q5, z5, o5, sz_mono HZb.out, HOb.out⟩
          case rest =>
            obtain ⟨rfl, Ha', Hb', Q5, y1, y2, y3, y4⟩ := hcut
            have HQ5 : Hid (Q4 _ _ _ _ _ _ _ _ _ _) := Q5
            clear Q5 j0 j1 HC0 HC1 HD0 HD1
            go_wp2_with fail
            go_roundw
            case rel => exact ⟨k + 1, Ha', Hb', by omega, by go_num, HQ5.out, y1, y2, y3, y4⟩
            case measure => simp [intOf]; omega
      · clear sa sb dj low kg kt za zb oa ob hr d bw
        go_upto_region 11 with fail
        go_cut [48] (fun x wx => x = .bool false ∧ ∃ Ha Hb, Q4 w wx h0 m0 h1 m1 gs gt Ha Hb ∧ Sz (k + 1) Ha ∧ OkH Ha ∧ Sz (k + 1) Hb ∧ OkH Hb)
        case first =>
          go_region_held3 (fun X => X.cell? ⟨gs, 0, none⟩ = some (.pointer (some ⟨h0, 0, none⟩)) ∧ X.cell? ⟨gt, 0, none⟩ = some (.pointer (some ⟨m0, 0, none⟩)) ∧ X.cell? ⟨b, off + k * 14, none⟩ = some (.int .i64 q.k) ∧ X.cell? ⟨b, off + k * 14 + 1, none⟩ = some (.int .i64 q.a) ∧ X.cell? ⟨b, off + k * 14 + 2, none⟩ = some (.int .i64 q.c.k) ∧ X.cell? ⟨b, off + k * 14 + 3, none⟩ = some (.int .i64 q.c.a) ∧ X.cell? ⟨b, off + k * 14 + 4, none⟩ = some (.int .i64 q.c.x) ∧ X.cell? ⟨b, off + k * 14 + 5, none⟩ = some (.int .i64 q.c.y) ∧ X.cell? ⟨b, off + k * 14 + 6, none⟩ = some (.bool q.c.r) ∧ X.cell? ⟨b, off + k * 14 + 7, none⟩ = some (.bool q.c.b) ∧ X.cell? ⟨b, off + k * 14 + 8, none⟩ = some (.int .i64 q.d.k) ∧ X.cell? ⟨b, off + k * 14 + 9, none⟩ = some (.int .i64 q.d.a) ∧ X.cell? ⟨b, off + k * 14 + 10, none⟩ = some (.int .i64 q.d.x) ∧ X.cell? ⟨b, off + k * 14 + 11, none⟩ = some (.int .i64 q.d.y) ∧ X.cell? ⟨b, off + k * 14 + 12, none⟩ = some (.bool q.d.r) ∧ X.cell? ⟨b, off + k * 14 + 13, none⟩ = some (.bool q.d.b)) (first | with_reducible exact j0 | with_reducible assumption)
            (first | (go_at_call 9; refine HC0.out.mono ?_; rintro e w5 ⟨rfl, hp5⟩; obtain ⟨H', z5, o5, Q5⟩ := HD0.out _ hp5; have k5 : w5.cell? ⟨gs, 0, none⟩ = some (.pointer (some ⟨h0, 0, none⟩)) ∧ w5.cell? ⟨gt, 0, none⟩ = some (.pointer (some ⟨m0, 0, none⟩)) ∧ w5.cell? ⟨b, off + k * 14, none⟩ = some (.int .i64 q.k) ∧ w5.cell? ⟨b, off + k * 14 + 1, none⟩ = some (.int .i64 q.a) ∧ w5.cell? ⟨b, off + k * 14 + 2, none⟩ = some (.int .i64 q.c.k) ∧ w5.cell? ⟨b, off + k * 14 + 3, none⟩ = some (.int .i64 q.c.a) ∧ w5.cell? ⟨b, off + k * 14 + 4, none⟩ = some (.int .i64 q.c.x) ∧ w5.cell? ⟨b, off + k * 14 + 5, none⟩ = some (.int .i64 q.c.y) ∧ w5.cell? ⟨b, off + k * 14 + 6, none⟩ = some (.bool q.c.r) ∧ w5.cell? ⟨b, off + k * 14 + 7, none⟩ = some (.bool q.c.b) ∧ w5.cell? ⟨b, off + k * 14 + 8, none⟩ = some (.int .i64 q.d.k) ∧ w5.cell? ⟨b, off + k * 14 + 9, none⟩ = some (.int .i64 q.d.a) ∧ w5.cell? ⟨b, off + k * 14 + 10, none⟩ = some (.int .i64 q.d.x) ∧ w5.cell? ⟨b, off + k * 14 + 11, none⟩ = some (.int .i64 q.d.y) ∧ w5.cell? ⟨b, off + k * 14 + 12, none⟩ = some (.bool q.d.r) ∧ w5.cell? ⟨b, off + k * 14 + 13, none⟩ = some (.bool q.d.b) := q4_S0 Q5 HW.out))
          all_goals
            clear j0 j1 k5
            go_wp2_with fail
            go_meet
            case rel => exact ⟨rfl, H', Hb, Q5, z5, o5, sz_mono HZb.out, HOb.out⟩
        case rest =>
          obtain ⟨rfl, Ha', Hb', Q5, y1, y2, y3, y4⟩ := hcut
          have HQ5 : Hid (Q4 _ _ _ _ _ _ _ _ _ _) := Q5
          clear Q5 j0 j1 HC0 HC1 HD0 HD1
          go_wp2_with fail
          go_roundw
          case rel => exact ⟨k + 1, Ha', Hb', by omega, by go_num, HQ5.out, y1, y2, y3, y4⟩
          case measure => simp [intOf]; omega
    · have HB0 : Hid (Below w.heap.size w wr) := bw
      have k0 : wr.drew.cell? ⟨gs, 0, none⟩ = some (.pointer (some ⟨h0, 0, none⟩)) ∧ wr.drew.cell? ⟨gt, 0, none⟩ = some (.pointer (some ⟨m0, 0, none⟩)) ∧ wr.drew.cell? ⟨gs, 1, none⟩ = some (.pointer (some ⟨h1, 0, none⟩)) ∧ wr.drew.cell? ⟨gt, 1, none⟩ = some (.pointer (some ⟨m1, 0, none⟩)) := ⟨g0, t0, g1, t1⟩
      have HE0 : Hid (Calls Try.prog 10 #[.pointer (some ⟨h0, 0, none⟩), .pointer (some ⟨m0, 0, none⟩)] wr.drew fun e w' => e = .returned (.bool true) ∧ Below wr.drew.heap.size wr.drew w') := whole_any (sa.p.up d) (sa.r.up d) za oa (by omega)
      have HE1 : Hid (∀ X, Below wr.heap.size wr X → Calls Try.prog 10 #[.pointer (some ⟨h1, 0, none⟩), .pointer (some ⟨m1, 0, none⟩)] X fun e w' => e = .returned (.bool true) ∧ Below X.heap.size X w') := fun X hX => whole_any (sb.p.up hX) (sb.r.up hX) zb ob (by omega)
      have HG : Hid (∀ X, Below wr.heap.size wr X → X.cell? ⟨gs, 0, none⟩ = some (.pointer (some ⟨h0, 0, none⟩)) ∧ X.cell? ⟨gt, 0, none⟩ = some (.pointer (some ⟨m0, 0, none⟩)) ∧ X.cell? ⟨gs, 1, none⟩ = some (.pointer (some ⟨h1, 0, none⟩)) ∧ X.cell? ⟨gt, 1, none⟩ = some (.pointer (some ⟨m1, 0, none⟩))) := fun X hX => ⟨(kg.up hX).cell 0, (kt.up hX).cell 0, (kg.up hX).cell 1, (kt.up hX).cell 1⟩
      clear sa sb dj low kg kt za zb oa ob d bw g0 g1 t0 t1
      go_upto_region 13 with fail
      go_region_held3 (fun X => X.cell? ⟨gs, 0, none⟩ = some (.pointer (some ⟨h0, 0, none⟩)) ∧ X.cell? ⟨gt, 0, none⟩ = some (.pointer (some ⟨m0, 0, none⟩)) ∧ X.cell? ⟨gs, 1, none⟩ = some (.pointer (some ⟨h1, 0, none⟩)) ∧ X.cell? ⟨gt, 1, none⟩ = some (.pointer (some ⟨m1, 0, none⟩))) (first | with_reducible exact k0 | with_reducible assumption)
        (first
          | (go_at_call 10; have hx := u5; refine (HE1.out _ v5).mono ?_; rintro e w6 ⟨rfl, u6⟩; have v6 := Below.thn v5 u6; have k6 : w6.cell? ⟨gs, 0, none⟩ = some (.pointer (some ⟨h0, 0, none⟩)) ∧ w6.cell? ⟨gt, 0, none⟩ = some (.pointer (some ⟨m0, 0, none⟩)) ∧ w6.cell? ⟨gs, 1, none⟩ = some (.pointer (some ⟨h1, 0, none⟩)) ∧ w6.cell? ⟨gt, 1, none⟩ = some (.pointer (some ⟨m1, 0, none⟩)) := HG.out _ v6)
          | (go_at_call 10; refine HE0.out.mono ?_; rintro e w5 ⟨rfl, u5⟩; have v5 := Below.thn (Below.refl wr.heap.size wr).drew u5; have k5 : w5.cell? ⟨gs, 0, none⟩ = some (.pointer (some ⟨h0, 0, none⟩)) ∧ w5.cell? ⟨gt, 0, none⟩ = some (.pointer (some ⟨m0, 0, none⟩)) ∧ w5.cell? ⟨gs, 1, none⟩ = some (.pointer (some ⟨h1, 0, none⟩)) ∧ w5.cell? ⟨gt, 1, none⟩ = some (.pointer (some ⟨m1, 0, none⟩)) := HG.out _ v5))
      all_goals
        clear k0 k5 k6
        go_wp2
        go_ret
        exact ⟨by simp, Below.thn HB0.out v6⟩
end Go.Proofs.Ytdbnlgjpfkfnjaa
