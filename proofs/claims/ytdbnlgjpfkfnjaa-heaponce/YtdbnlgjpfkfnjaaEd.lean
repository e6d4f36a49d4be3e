/-
  HeapOnce: a thunk is entered once at most, and what it was found to be stays.
-/
import Derived.Test.YtdbnlgjpfkfnjaaEc
import Derived.Test.YtdbnlgjpfkfnjaaDy
namespace Go.Proofs.Ytdbnlgjpfkfnjaa
open Go.RowKit Go.Maps Go.WideMaps
open Go.Lib
set_option maxRecDepth 100000

/-- The states of nodes that were made. -/
def StH (H : Hm) : Prop := ∀ n ∈ H.ns, n.s = 1 ∨ n.s = 2 ∨ n.s = 3 ∨ n.s = 4
theorem kn_app {H : Hm} {fE fD : Int → Option Value} (h : Kn H fE fD) (n : Nd) (hn : n.s ≠ 2 ∧ n.s ≠ 3) (th : Nat) : Kn { H with ns := H.ns ++ [n], th := th } fE fD := by
  refine kn_same h fun a => ?_
  rw [look_app]
  by_cases e : a = H.ns.length
  · have h0 : (lookP H a).1 = nd0 := by
      unfold lookP hasI
      rw [if_neg (by simp; omega)]
    rw [if_pos e, h0]
    refine ⟨⟨fun x => absurd x hn.1, fun x => by simp [nd0] at x⟩, ⟨fun x => absurd x hn.2, fun x => by simp [nd0] at x⟩, fun x => by simp [nd0] at x⟩
  · rw [if_neg e]
    exact ⟨Iff.rfl, Iff.rfl, fun _ => rfl⟩
theorem kn_ps {H : Hm} {fE fD : Int → Option Value} (h : Kn H fE fD) (c d : Cl) : Kn (pairP H c d).2 fE fD := by
  unfold pairP
  split
  · exact ⟨h.e, h.d⟩
  · exact h
theorem look0 (a : Int) : lookP hm0 a = (nd0, 2) := by
  rcases look_cases hm0 a with e | ⟨i, rfl, hi, _⟩
  · exact e
  · simp [hm0] at hi
theorem kn0 : Kn hm0 (fun _ => none) (fun _ => none) := ⟨fun a => by rw [look0]; rfl, fun a => by rw [look0]; rfl⟩
/-- A delayed node is entered. -/
theorem kn_enter {H : Hm} {fE fD : Int → Option Value} (h : Kn H fE fD) {i : Nat} (hi : i < H.ns.length) (hs : (lookP H i).1.s = 1) : Kn { H with ns := H.ns.set i ⟨2, 0, cl0⟩ } (putI fE i (.int .i64 1)) fD := by
  have hl := look_set H i ⟨2, 0, cl0⟩ H.up hi
  refine ⟨fun a => ?_, fun a => ?_⟩
  · rw [hl a]
    unfold putI
    by_cases e : a = i
    · rw [if_pos e, if_pos e]; rfl
    · rw [if_neg e, if_neg e]; exact h.e a
  · rw [hl a]
    by_cases e : a = i
    · rw [if_pos e, h.d a, e, if_neg (by omega), if_neg (by simp)]
    · rw [if_neg e]; exact h.d a
/-- A black node is done. -/
theorem kn_upd {H : Hm} {fE fD : Int → Option Value} (h : Kn H fE fD) {i : Nat} (hi : i < H.ns.length) (hs : (lookP H i).1.s = 2) (c : Cl) (up : Nat) : Kn { H with ns := H.ns.set i ⟨3, 0, c⟩, up := up } fE (putI fD i (clV c)) := by
  have hl := look_set H i ⟨3, 0, c⟩ up hi
  refine ⟨fun a => ?_, fun a => ?_⟩
  · rw [hl a, h.e a]
    by_cases e : a = i
    · rw [if_pos e, e, if_pos (.inl hs), if_pos (.inr rfl)]
    · rw [if_neg e]
  · rw [hl a]
    unfold putI
    by_cases e : a = i
    · rw [if_pos e, if_pos e, if_pos rfl]
    · rw [if_neg e, if_neg e]; exact h.d a

theorem pair_ns (H : Hm) (c d : Cl) : (pairP H c d).2.ns = H.ns := by unfold pairP; split <;> rfl
theorem pair_up (H : Hm) (c d : Cl) : (pairP H c d).2.up = H.up := by unfold pairP; split <;> rfl
theorem upd_cases (H : Hm) (a : Int) (c : Cl) : ((updP H a c).1 ≠ 0 ∧ (updP H a c).2 = H) ∨ ((updP H a c).1 = 0 ∧ ∃ i : Nat, a = i ∧ i < H.ns.length ∧ (lookP H a).1.s = 2 ∧ (updP H a c).2 = { H with ns := H.ns.set i ⟨3, 0, c⟩, up := H.up + 1 }) := by
  unfold updP
  rcases look_cases H a with e | ⟨i, rfl, hi, e⟩
  · rw [e, if_pos (by simp)]
    exact .inl ⟨by simp, rfl⟩
  · by_cases hc : (lookP H i).1.s = 2 ∧ (decide (c.k ≠ 5) && isC H.ns.length H.ps.length c) = true
    · rw [if_neg (by rw [e]; simp), if_pos hc]
      exact .inr ⟨rfl, i, rfl, hi, hc.1, rfl⟩
    · rw [if_neg (by rw [e]; simp), if_neg hc]
      exact .inl ⟨by simp, rfl⟩
theorem enter_cases (H : Hm) (a : Int) : ((enterP H a).1.2 ≠ 0 ∧ (enterP H a).2 = H ∧ (lookP H a).1.s ≠ 3) ∨ ((enterP H a).1.2 = 0 ∧ (lookP H a).1.s = 1 ∧ (enterP H a).1.1 = (lookP H a).1 ∧ ∃ i : Nat, a = i ∧ i < H.ns.length ∧ (enterP H a).2 = { H with ns := H.ns.set i ⟨2, 0, cl0⟩ }) ∨ ((enterP H a).1.2 = 0 ∧ (enterP H a).1.1 = (lookP H a).1 ∧ (lookP H a).1.s ≠ 1 ∧ (enterP H a).2 = H) := by
  unfold enterP
  rcases look_cases H a with e | ⟨i, rfl, hi, e⟩
  · rw [e, if_pos (by simp)]
    exact .inl ⟨by simp, rfl, by simp [nd0]⟩
  · rw [if_neg (by rw [e]; simp)]
    by_cases h2 : (lookP H i).1.s = 2
    · rw [if_pos h2]
      exact .inl ⟨by simp, rfl, by omega⟩
    · rw [if_neg h2]
      by_cases h4 : (lookP H i).1.s = 4
      · rw [if_pos h4]
        exact .inl ⟨by simp, rfl, by omega⟩
      · rw [if_neg h4]
        by_cases h1 : (lookP H i).1.s = 1
        · rw [if_pos h1]
          exact .inr (.inl ⟨rfl, h1, rfl, i, rfl, hi, rfl⟩)
        · rw [if_neg h1]
          exact .inr (.inr ⟨rfl, rfl, h1, rfl⟩)
theorem zeroC (w : World) : (zeroValue 55).run Try.prog w = .ok (clV cl0) w := by
  unfold zeroValue
  rfl
theorem zeroI (w : World) : (zeroValue 3).run Try.prog w = .ok (.int .i64 0) w := by
  unfold zeroValue
  rfl
theorem kn_d {H : Hm} {fE fD : Int → Option Value} (h : Kn H fE fD) (a : Int) : ∃ c, (fD a).getD (clV cl0) = clV c ∧ (fD a).isSome = decide ((lookP H a).1.s = 3) ∧ ((lookP H a).1.s = 3 → c = (lookP H a).1.c) := by
  rw [h.d a]
  by_cases e : (lookP H a).1.s = 3
  · rw [if_pos e]
    exact ⟨_, rfl, by simp [e], fun _ => rfl⟩
  · rw [if_neg e]
    exact ⟨cl0, rfl, by simp [e], fun x => absurd x e⟩
/-- How it stands: the heap, the two maps. -/
structure On (w cur : World) (T : Nat → Prop) (bh me md n sD : Nat) (H : Hm) (fE fD : Int → Option Value) : Prop where
  p : HpW 73 87 T cur bh H
  low : ∀ x, T x → w.heap.size ≤ x ∧ x ≠ me ∧ x ≠ md
  e : ∃ s, MapI Try.prog 3 cur me n s fE
  d : MapI Try.prog 3 cur md n sD fD
  hm : w.heap.size ≤ me ∧ w.heap.size ≤ md ∧ me ≠ md
  bw : Below w.heap.size w cur
section
variable {w cur cur' : World} {T : Nat → Prop} {bh me md n sD : Nat} {H H' : Hm} {fE fD : Int → Option Value}
theorem On.lts (h : On w cur T bh me md n sD H fE fD) : me < cur.heap.size ∧ md < cur.heap.size := by
  obtain ⟨s, he⟩ := h.e
  exact ⟨he.lt, h.d.lt⟩
theorem On.up (h : On w cur T bh me md n sD H fE fD) (hb : Below cur.heap.size cur cur') : On w cur' T bh me md n sD H fE fD := by
  obtain ⟨l1, l2⟩ := h.lts
  obtain ⟨s, he⟩ := h.e
  exact ⟨h.p.up hb, h.low, ⟨s, he.block (hb.block me l1)⟩, h.d.block (hb.block md l2), h.hm, Below.thn h.bw hb⟩
theorem On.oth (h : On w cur T bh me md n sD H fE fD) {g : Nat} (hO : Oth g cur cur') (h1 : ¬ T g) (h2 : g ≠ me) (h3 : g ≠ md) (h4 : w.heap.size ≤ g) : On w cur' T bh me md n sD H fE fD := by
  obtain ⟨s, he⟩ := h.e
  exact ⟨h.p.oth hO h1, h.low, ⟨s, he.block (hO.block me (fun e => h2 e.symm))⟩, h.d.block (hO.block md (fun e => h3 e.symm)), h.hm, Below.othr h.bw hO h4⟩
theorem On.pcall (h : On w cur T bh me md n sD H fE fD) (hN : HpN 73 87 T cur cur' bh H') : ∃ T' : Nat → Prop, On w cur' T' bh me md n sD H' fE fD ∧ (∀ k, T' k → T k ∨ cur.heap.size ≤ k) ∧ ButS T cur cur' := by
  obtain ⟨U1, T', s, p'⟩ := hN.ex
  obtain ⟨l1, l2⟩ := h.lts
  obtain ⟨se, he⟩ := h.e
  have hs := h.bw.size
  refine ⟨T', ⟨p', fun x e => (s x e).elim (h.low x) fun e' => ⟨by omega, by omega, by omega⟩, ⟨se, he.block (U1.block me l1 fun e => (h.low me e).2.1 rfl)⟩, h.d.block (U1.block md l2 fun e => (h.low md e).2.2 rfl), h.hm, h.bw.trans (U1.toBelow hs fun x e => (h.low x e).1)⟩, s, U1⟩
theorem On.out (h : On w cur T bh me md n sD H fE fD) {g : Nat} (hg : cur.heap.size ≤ g) : ¬ T g ∧ g ≠ me ∧ g ≠ md ∧ w.heap.size ≤ g := by
  obtain ⟨l1, l2⟩ := h.lts
  have hs := h.bw.size
  exact ⟨fun e => absurd (h.p.lt g e) (by omega), by omega, by omega, by omega⟩
theorem On.putD (h : On w cur T bh me md n sD H fE fD) {s' : Nat} {fD' : Int → Option Value} (hM : MapI Try.prog 3 cur' md (n + 1) s' fD') (hg : cur.grownBy cur' (some md)) : On w cur' T bh me md (n + 1) s' H fE fD' := by
  obtain ⟨l1, l2⟩ := h.lts
  obtain ⟨s, he⟩ := h.e
  exact ⟨h.p.keep hg.size fun x e => hg.block x (h.p.lt x e) fun e' => (h.low x e).2.2 (Option.some.inj e'), h.low, ⟨s, (he.block (hg.block me l1 fun e => h.hm.2.2 (Option.some.inj e))).mono (Nat.le_succ _)⟩, hM, h.hm, h.bw.trans ⟨hg.os, hg.tape, hg.output, hg.size, fun x hx => hg.block x (Nat.lt_of_lt_of_le hx h.bw.size) fun e => by have := Option.some.inj e; have := h.hm; omega⟩⟩
theorem On.putE (h : On w cur T bh me md n sD H fE fD) {s' : Nat} {fE' : Int → Option Value} (hM : MapI Try.prog 3 cur' me (n + 1) s' fE') (hg : cur.grownBy cur' (some me)) : On w cur' T bh me md (n + 1) sD H fE' fD := by
  obtain ⟨l1, l2⟩ := h.lts
  exact ⟨h.p.keep hg.size fun x e => hg.block x (h.p.lt x e) fun e' => (h.low x e).2.1 (Option.some.inj e'), h.low, ⟨_, hM⟩, (h.d.block (hg.block md l2 fun e => h.hm.2.2 (Option.some.inj e).symm)).mono (Nat.le_succ _), h.hm, h.bw.trans ⟨hg.os, hg.tape, hg.output, hg.size, fun x hx => hg.block x (Nat.lt_of_lt_of_le hx h.bw.size) fun e => by have := Option.some.inj e; have := h.hm; omega⟩⟩
theorem On.mono (h : On w cur T bh me md n sD H fE fD) : On w cur T bh me md (n + 1) sD H fE fD := by
  obtain ⟨s, he⟩ := h.e
  exact ⟨h.p, h.low, ⟨s, he.mono (Nat.le_succ _)⟩, h.d.mono (Nat.le_succ _), h.hm, h.bw⟩
end
/-- The loop's invariant. -/
def OnI (w wr : World) (bh me md k : Nat) (v6 v7 : Value) : Prop := ∃ (H : Hm) (T : Nat → Prop) (fE fD : Int → Option Value), v7 = .int .i64 k ∧ v6 = .int .i64 H.ns.length ∧ On w wr T bh me md k H.up H fE fD ∧ Kn H fE fD ∧ Sz k H ∧ OkH H
def akz : Ak := ⟨0, 0, ⟨0, 0, 0, 0, false, false⟩, ⟨0, 0, 0, 0, false, false⟩⟩
theorem akC_one (q : Ak) : ∀ u ∈ akC q, u.oneCell' = true := by
  intro u hu; simp only [akC, List.mem_cons, List.not_mem_nil, or_false] at hu; rcases hu with rfl | rfl | rfl | rfl | rfl | rfl | rfl | rfl | rfl | rfl | rfl | rfl | rfl | rfl <;> rfl
theorem over_ak (q q' : Ak) : over (akC q) 0 (akC q') = akC q' := rfl

set_option maxHeartbeats 8000000 in
theorem heapOnce_any {w : World} {ao : Option Addr} {cap : Nat} {qs : List Ak} (hs : Sc w ao qs) (hwf : ∀ i, i < qs.length → (Lit.int .i64 (qs.getD i akz).a).wf = true) (hn : qs.length < 1260000000000) :
    Calls Try.prog 5 #[.slice ao qs.length cap] w fun e w' => e = .returned (.bool true) ∧ Below w.heap.size w w' := by
  have HS : Hid (Sc w ao qs) := hs
  have HF : Hid (∀ i, i < qs.length → (Lit.int .i64 (qs.getD i akz).a).wf = true) := hwf
  clear hs hwf
  go_enter Try.func5, Try.ntmps5
  go_wp2_with fail
  refine (awake13_any _).mono ?_
  rintro e w1 ⟨rfl, u1⟩
  go_wp2_with fail
  refine (new_any _).mono ?_
  rintro e w2 ⟨rfl, hw2⟩
  have p2 : HpW 73 87 (· = w1.heap.size) w2 w1.heap.size hm0 := by rw [hw2]; exact hpNew
  have u2 : Below w1.heap.size w1 w2 := by rw [hw2]; exact below_alloc _ _
  have l2 : w1.heap.size < w2.heap.size := p2.lt _ rfl
  have s1 := u1.size
  have m3 := MapI.made w2 Try.prog 3
  have v3 := below_alloc w2 (.map #[] 0)
  have e3 : (w2.alloc (.map #[] 0)).heap.size = w2.heap.size + 1 := by simp
  have m4 := MapI.made (w2.alloc (.map #[] 0)) Try.prog 3
  have v4 := below_alloc (w2.alloc (.map #[] 0)) (.map #[] 0)
  have m3' : MapI Try.prog 3 ((w2.alloc (.map #[] 0)).alloc (.map #[] 0)) w2.heap.size 0 0 fun _ => none := m3.block (v4.block _ m3.lt)
  rw [e3] at m4
  have q0 : On w ((w2.alloc (.map #[] 0)).alloc (.map #[] 0)) (· = w1.heap.size) w1.heap.size w2.heap.size (w2.heap.size + 1) 0 0 hm0 (fun _ => none) (fun _ => none) :=
    ⟨(p2.up v3).up v4, fun x e => by omega, ⟨0, m3'⟩, m4, by omega, Below.thn (Below.thn (Below.thn u1 u2) v3) v4⟩
  have HQ : Hid (On w ((w2.alloc (.map #[] 0)).alloc (.map #[] 0)) (· = w1.heap.size) w1.heap.size w2.heap.size (w2.heap.size + 1) 0 0 hm0 (fun _ => none) (fun _ => none)) := q0
  clear q0 m3 m4 m3' v3 v4 e3 p2 u1 u2 hw2
  have hmm := @run_makeMap Try.prog
  go_upto_region 6 with fail
  clear hmm
  generalize (w2.alloc (.map #[] 0)).alloc (.map #[] 0) = w4 at *
  generalize w2.heap.size + 1 = md at *
  generalize w2.heap.size = me at *
  generalize w1.heap.size = bh at *
  go_wp2_with fail
  go_loopw [6, 7] (fun v6 v7 wr => ∃ k : Nat, k ≤ qs.length ∧ OnI w wr bh me md k v6 v7) (fun _ v7 _ => qs.length - (intOf v7).toNat)
  case atStart => exact ⟨0, Nat.zero_le _, hm0, _, _, _, rfl, rfl, HQ.out, kn0, ⟨Nat.le_refl _, Nat.le_refl _, Nat.le_refl _, Nat.le_refl _⟩, fun n hn => by simp [hm0] at hn, fun n hn => by simp [hm0] at hn⟩
  case round =>
    obtain ⟨k, hkn, H, T, fE, fD, rfl, rfl, on, kn, hz, ho⟩ := hrel
    have hsz := hz
    have HK : Hid (Kn H fE fD) := kn
    have HZ : Hid (Sz k H) := hz
    have HO : Hid (OkH H) := ho
    have hnl : H.ns.length < 1300000000000 := by have := hz.1; omega
    clear kn hz ho hsz
    by_cases hlt : k < qs.length
    · have hne : qs ≠ [] := fun e => by rw [e] at hlt; simp at hlt
      obtain ⟨b, off, rfl, hr0⟩ := (HS.out.keep on.bw).pl hne
      have hr := hr0 k hlt
      have hw := HF.out k hlt
      clear hr0
      change wr.rangeAt b (off + k * 14) (akC (qs.getD k akz)) at hr
      generalize qs.getD k akz = q at hr hw
      have HW : Hid ((Lit.int .i64 q.a).wf = true) := hw
      obtain ⟨x1, x2, x3, x4⟩ := on.out (Nat.le_refl _)
      have hX0 : Bk (wr.alloc (.cells #[.int .i64 0, .int .i64 0, .int .i64 0, .int .i64 0, .int .i64 0, .int .i64 0, .bool false, .bool false, .int .i64 0, .int .i64 0, .int .i64 0, .int .i64 0, .bool false, .bool false] 37)) wr.heap.size 37 (akC akz) := Bk.new wr 37 #[.int .i64 0, .int .i64 0, .int .i64 0, .int .i64 0, .int .i64 0, .int .i64 0, .bool false, .bool false, .int .i64 0, .int .i64 0, .int .i64 0, .int .i64 0, .bool false, .bool false]
      have v1 := below_alloc wr (.cells #[.int .i64 0, .int .i64 0, .int .i64 0, .int .i64 0, .int .i64 0, .int .i64 0, .bool false, .bool false, .int .i64 0, .int .i64 0, .int .i64 0, .int .i64 0, .bool false, .bool false] 37)
      have HN0 : Hid (On _ _ _ _ _ _ _ _ _ _ _) := on
      clear on hw
      go_upto_region 11 with (first
        | (refine wpList_loadN rfl 37 (.tmp 37) rfl b (off + k * 14) rfl (akC q) _ hr Try.underlying37 Try.infoAk ?_)
        | (refine wpList_storeN rfl 37 (.tmp 8) (.tmp 38) rfl wr.heap.size 0 (akC q) rfl rfl hX0 (Nat.le_refl 14) Try.infoAk (akC_one _) ?_; intro w4 a4 hO4))
      rw [over_ak] at a4
      have on4 := (HN0.out.up v1).oth hO4 x1 x2 x3 x4
      have HN : Hid (On _ _ _ _ _ _ _ _ _ _ _) := on4
      have HX : Hid (¬ T wr.heap.size ∧ wr.heap.size ≠ me ∧ wr.heap.size ≠ md ∧ w.heap.size ≤ wr.heap.size) := ⟨x1, x2, x3, x4⟩
      have c0 : w4.cell? ⟨wr.heap.size, 0, none⟩ = some (.int .i64 q.k) := a4.cell 0
      have c1 : w4.cell? ⟨wr.heap.size, 1, none⟩ = some (.int .i64 q.a) := a4.cell 1
      have hXl := a4.lt
      clear on4 hO4 v1 hX0 hr HN0 x1 x2 x3 x4
      generalize wr.heap.size = X at *
      obtain ⟨i, hi, hin⟩ := into_all q.k
      go_wp2_with fail
      refine (hin _).mono ?_
      rintro e w' ⟨rfl, rfl⟩
      clear hin c0
      have h7 : i = 0 ∨ i = 1 ∨ i = 2 ∨ i = 6 ∨ (i = 3 ∨ i = 4 ∨ i = 5) := by omega
      rcases h7 with rfl | rfl | rfl | rfl | h7
      · go_wp2_with fail
        refine (delay_any HN.out.p q.a HZ.out (by omega)).mono ?_
        rintro e w5 ⟨rfl, hN⟩
        obtain ⟨T', on5, _, _⟩ := HN.out.pcall hN
        have HN5 : Hid (On _ _ _ _ _ _ _ _ _ _ _) := on5
        clear hN on5 c1 HN
        go_wp2_with fail
        go_roundw
        case rel => exact ⟨k + 1, by omega, { H with ns := H.ns ++ [⟨1, q.a, cl0⟩], th := (H.th + 1) }, T', fE, fD, by go_num, by simp, HN5.out.mono, kn_app HK.out _ ⟨by simp, by simp⟩ (H.th + 1), by have := HZ.out; unfold Sz at this ⊢; simp only [List.length_append, List.length_singleton]; omega, ok_app HO.out vc_zero (H.th + 1)⟩
        case measure => simp [intOf]; omega
      · go_wp2_with fail
        refine (poison_any HN.out.p HZ.out (by omega)).mono ?_
        rintro e w5 ⟨rfl, hN⟩
        obtain ⟨T', on5, _, _⟩ := HN.out.pcall hN
        have HN5 : Hid (On _ _ _ _ _ _ _ _ _ _ _) := on5
        clear hN on5 c1 HN
        go_wp2_with fail
        go_roundw
        case rel => exact ⟨k + 1, by omega, { H with ns := H.ns ++ [⟨4, 0, cl0⟩], th := H.th }, T', fE, fD, by go_num, by simp, HN5.out.mono, kn_app HK.out _ ⟨by simp, by simp⟩ H.th, by have := HZ.out; unfold Sz at this ⊢; simp only [List.length_append, List.length_singleton]; omega, ok_app HO.out vc_zero H.th⟩
        case measure => simp [intOf]; omega
      · have k0 : w'.drew.cell? ⟨X, 1, none⟩ = some (.int .i64 q.a) ∧ w'.drew.cell? ⟨X, 2, none⟩ = some (.int .i64 q.c.k) ∧ w'.drew.cell? ⟨X, 3, none⟩ = some (.int .i64 q.c.a) ∧ w'.drew.cell? ⟨X, 4, none⟩ = some (.int .i64 q.c.x) ∧ w'.drew.cell? ⟨X, 5, none⟩ = some (.int .i64 q.c.y) ∧ w'.drew.cell? ⟨X, 6, none⟩ = some (.bool q.c.r) ∧ w'.drew.cell? ⟨X, 7, none⟩ = some (.bool q.c.b) ∧ w'.drew.cell? ⟨X, 8, none⟩ = some (.int .i64 q.d.k) ∧ w'.drew.cell? ⟨X, 9, none⟩ = some (.int .i64 q.d.a) ∧ w'.drew.cell? ⟨X, 10, none⟩ = some (.int .i64 q.d.x) ∧ w'.drew.cell? ⟨X, 11, none⟩ = some (.int .i64 q.d.y) ∧ w'.drew.cell? ⟨X, 12, none⟩ = some (.bool q.d.r) ∧ w'.drew.cell? ⟨X, 13, none⟩ = some (.bool q.d.b) := ak_cells (X := w'.drew) (g := X) ⟨a4⟩
        go_upto_region 31 with fail
        go_region_held3 (fun V => V.cell? ⟨X, 1, none⟩ = some (.int .i64 q.a) ∧ V.cell? ⟨X, 2, none⟩ = some (.int .i64 q.c.k) ∧ V.cell? ⟨X, 3, none⟩ = some (.int .i64 q.c.a) ∧ V.cell? ⟨X, 4, none⟩ = some (.int .i64 q.c.x) ∧ V.cell? ⟨X, 5, none⟩ = some (.int .i64 q.c.y) ∧ V.cell? ⟨X, 6, none⟩ = some (.bool q.c.r) ∧ V.cell? ⟨X, 7, none⟩ = some (.bool q.c.b) ∧ V.cell? ⟨X, 8, none⟩ = some (.int .i64 q.d.k) ∧ V.cell? ⟨X, 9, none⟩ = some (.int .i64 q.d.a) ∧ V.cell? ⟨X, 10, none⟩ = some (.int .i64 q.d.x) ∧ V.cell? ⟨X, 11, none⟩ = some (.int .i64 q.d.y) ∧ V.cell? ⟨X, 12, none⟩ = some (.bool q.d.r) ∧ V.cell? ⟨X, 13, none⟩ = some (.bool q.d.b)) (first | with_reducible exact k0 | with_reducible assumption)
          (first
            | (go_at_call 15; refine (c_any ⟨_, _, _, _, _, _⟩ _).mono ?_; rintro e w5 ⟨rfl, u5⟩; have v5 : Below w'.heap.size w' w5 := (by first | exact Below.thn v5 u5 | exact Below.thn (Below.refl w'.heap.size w').drew u5); have k5 : w5.cell? ⟨X, 1, none⟩ = some (.int .i64 q.a) ∧ w5.cell? ⟨X, 2, none⟩ = some (.int .i64 q.c.k) ∧ w5.cell? ⟨X, 3, none⟩ = some (.int .i64 q.c.a) ∧ w5.cell? ⟨X, 4, none⟩ = some (.int .i64 q.c.x) ∧ w5.cell? ⟨X, 5, none⟩ = some (.int .i64 q.c.y) ∧ w5.cell? ⟨X, 6, none⟩ = some (.bool q.c.r) ∧ w5.cell? ⟨X, 7, none⟩ = some (.bool q.c.b) ∧ w5.cell? ⟨X, 8, none⟩ = some (.int .i64 q.d.k) ∧ w5.cell? ⟨X, 9, none⟩ = some (.int .i64 q.d.a) ∧ w5.cell? ⟨X, 10, none⟩ = some (.int .i64 q.d.x) ∧ w5.cell? ⟨X, 11, none⟩ = some (.int .i64 q.d.y) ∧ w5.cell? ⟨X, 12, none⟩ = some (.bool q.d.r) ∧ w5.cell? ⟨X, 13, none⟩ = some (.bool q.d.b) := ak_cells (g := X) ⟨a4.up v5⟩)
            | (go_at_call 14; refine (pair_any (HN.out.p.up v5) (lcP q.c) (lcP q.d) (lcP_lt _) (lcP_lt _) HZ.out (by omega)).mono ?_; rintro e w6 ⟨rfl, hN6⟩; obtain ⟨T', on6, s6, U6⟩ := (HN.out.up v5).pcall hN6; have HN6 : Hid (On _ _ _ _ _ _ _ _ _ _ _) := on6; have k6 : w6.cell? ⟨X, 1, none⟩ = some (.int .i64 q.a) ∧ w6.cell? ⟨X, 2, none⟩ = some (.int .i64 q.c.k) ∧ w6.cell? ⟨X, 3, none⟩ = some (.int .i64 q.c.a) ∧ w6.cell? ⟨X, 4, none⟩ = some (.int .i64 q.c.x) ∧ w6.cell? ⟨X, 5, none⟩ = some (.int .i64 q.c.y) ∧ w6.cell? ⟨X, 6, none⟩ = some (.bool q.c.r) ∧ w6.cell? ⟨X, 7, none⟩ = some (.bool q.c.b) ∧ w6.cell? ⟨X, 8, none⟩ = some (.int .i64 q.d.k) ∧ w6.cell? ⟨X, 9, none⟩ = some (.int .i64 q.d.a) ∧ w6.cell? ⟨X, 10, none⟩ = some (.int .i64 q.d.x) ∧ w6.cell? ⟨X, 11, none⟩ = some (.int .i64 q.d.y) ∧ w6.cell? ⟨X, 12, none⟩ = some (.bool q.d.r) ∧ w6.cell? ⟨X, 13, none⟩ = some (.bool q.d.b) := ak_cells (g := X) ⟨U6.bk (a4.up v5) HX.out.1⟩; clear on6 s6 U6 hN6))
        all_goals
          clear k0 k5 k6 c1
          go_wp2_with fail
          go_roundw
          case rel => exact ⟨k + 1, by omega, (pairP H (lcP q.c) (lcP q.d)).2, T', fE, fD, by go_num, by rw [pair_ns], (by have := HN6.out.mono; rwa [← pair_up H (lcP q.c) (lcP q.d)] at this), kn_ps HK.out _ _, sz_pair HZ.out _ _, ok_pair HO.out _ _⟩
          case measure => simp [intOf]; omega
      · have k0 : w'.drew.cell? ⟨X, 1, none⟩ = some (.int .i64 q.a) ∧ w'.drew.cell? ⟨X, 2, none⟩ = some (.int .i64 q.c.k) ∧ w'.drew.cell? ⟨X, 3, none⟩ = some (.int .i64 q.c.a) ∧ w'.drew.cell? ⟨X, 4, none⟩ = some (.int .i64 q.c.x) ∧ w'.drew.cell? ⟨X, 5, none⟩ = some (.int .i64 q.c.y) ∧ w'.drew.cell? ⟨X, 6, none⟩ = some (.bool q.c.r) ∧ w'.drew.cell? ⟨X, 7, none⟩ = some (.bool q.c.b) ∧ w'.drew.cell? ⟨X, 8, none⟩ = some (.int .i64 q.d.k) ∧ w'.drew.cell? ⟨X, 9, none⟩ = some (.int .i64 q.d.a) ∧ w'.drew.cell? ⟨X, 10, none⟩ = some (.int .i64 q.d.x) ∧ w'.drew.cell? ⟨X, 11, none⟩ = some (.int .i64 q.d.y) ∧ w'.drew.cell? ⟨X, 12, none⟩ = some (.bool q.d.r) ∧ w'.drew.cell? ⟨X, 13, none⟩ = some (.bool q.d.b) := ak_cells (X := w'.drew) (g := X) ⟨a4⟩
        obtain ⟨c, hc⟩ : ∃ c, c = lcP q.c := ⟨_, rfl⟩
        have hct : ltZ c.z := by rw [hc]; exact lcP_lt _
        go_upto_region 33 with fail
        go_cut [13] (fun x wx => x = .int .i64 (updP H q.a c).1 ∧ ∃ T', On w wx T' bh me md k H.up (updP H q.a c).2 fE fD ∧ Bk wx X 37 (akC q) ∧ ¬ T' X)
        case first =>
          have HC : Hid (c = lcP q.c) := hc
          clear hc
          go_region_held3 (fun V => V.cell? ⟨X, 1, none⟩ = some (.int .i64 q.a) ∧ V.cell? ⟨X, 2, none⟩ = some (.int .i64 q.c.k) ∧ V.cell? ⟨X, 3, none⟩ = some (.int .i64 q.c.a) ∧ V.cell? ⟨X, 4, none⟩ = some (.int .i64 q.c.x) ∧ V.cell? ⟨X, 5, none⟩ = some (.int .i64 q.c.y) ∧ V.cell? ⟨X, 6, none⟩ = some (.bool q.c.r) ∧ V.cell? ⟨X, 7, none⟩ = some (.bool q.c.b) ∧ V.cell? ⟨X, 8, none⟩ = some (.int .i64 q.d.k) ∧ V.cell? ⟨X, 9, none⟩ = some (.int .i64 q.d.a) ∧ V.cell? ⟨X, 10, none⟩ = some (.int .i64 q.d.x) ∧ V.cell? ⟨X, 11, none⟩ = some (.int .i64 q.d.y) ∧ V.cell? ⟨X, 12, none⟩ = some (.bool q.d.r) ∧ V.cell? ⟨X, 13, none⟩ = some (.bool q.d.b)) (first | with_reducible exact k0 | with_reducible assumption)
            (first
              | (go_at_call 15; refine (c_any ⟨_, _, _, _, _, _⟩ _).mono ?_; rintro e w5 ⟨rfl, u5⟩; have v5 : Below w'.heap.size w' w5 := Below.thn (Below.refl w'.heap.size w').drew u5; have k5 : w5.cell? ⟨X, 1, none⟩ = some (.int .i64 q.a) ∧ w5.cell? ⟨X, 2, none⟩ = some (.int .i64 q.c.k) ∧ w5.cell? ⟨X, 3, none⟩ = some (.int .i64 q.c.a) ∧ w5.cell? ⟨X, 4, none⟩ = some (.int .i64 q.c.x) ∧ w5.cell? ⟨X, 5, none⟩ = some (.int .i64 q.c.y) ∧ w5.cell? ⟨X, 6, none⟩ = some (.bool q.c.r) ∧ w5.cell? ⟨X, 7, none⟩ = some (.bool q.c.b) ∧ w5.cell? ⟨X, 8, none⟩ = some (.int .i64 q.d.k) ∧ w5.cell? ⟨X, 9, none⟩ = some (.int .i64 q.d.a) ∧ w5.cell? ⟨X, 10, none⟩ = some (.int .i64 q.d.x) ∧ w5.cell? ⟨X, 11, none⟩ = some (.int .i64 q.d.y) ∧ w5.cell? ⟨X, 12, none⟩ = some (.bool q.d.r) ∧ w5.cell? ⟨X, 13, none⟩ = some (.bool q.d.b) := ak_cells (g := X) ⟨a4.up v5⟩)
              | (go_at_call 16; refine (update_any (HN.out.p.up v5) q.a (lcP q.c) (lcP_lt _) HZ.out (by omega)).mono ?_; rintro e w6 ⟨rfl, hN6⟩; rw [← HC.out] at hN6 ⊢; obtain ⟨T', on6, s6, U6⟩ := (HN.out.up v5).pcall hN6; have HN6 : Hid (On _ _ _ _ _ _ _ _ _ _ _) := on6; have a6 := U6.bk (a4.up v5) HX.out.1; have y6 : ¬ T' X := (fun e => (s6 _ e).elim HX.out.1 fun e => by have := v5.size; omega); have k6 : w6.cell? ⟨X, 1, none⟩ = some (.int .i64 q.a) ∧ w6.cell? ⟨X, 2, none⟩ = some (.int .i64 q.c.k) ∧ w6.cell? ⟨X, 3, none⟩ = some (.int .i64 q.c.a) ∧ w6.cell? ⟨X, 4, none⟩ = some (.int .i64 q.c.x) ∧ w6.cell? ⟨X, 5, none⟩ = some (.int .i64 q.c.y) ∧ w6.cell? ⟨X, 6, none⟩ = some (.bool q.c.r) ∧ w6.cell? ⟨X, 7, none⟩ = some (.bool q.c.b) ∧ w6.cell? ⟨X, 8, none⟩ = some (.int .i64 q.d.k) ∧ w6.cell? ⟨X, 9, none⟩ = some (.int .i64 q.d.a) ∧ w6.cell? ⟨X, 10, none⟩ = some (.int .i64 q.d.x) ∧ w6.cell? ⟨X, 11, none⟩ = some (.int .i64 q.d.y) ∧ w6.cell? ⟨X, 12, none⟩ = some (.bool q.d.r) ∧ w6.cell? ⟨X, 13, none⟩ = some (.bool q.d.b) := ak_cells (g := X) ⟨a6⟩; clear on6 s6 U6 hN6))
          all_goals
            clear k0 k5 k6 c1
            go_wp2_with fail
            go_meet
            case rel => exact ⟨rfl, T', HN6.out, a6, y6⟩
        case rest =>
          obtain ⟨rfl, T', on5, a5, y5⟩ := hcut
          generalize wc = w5 at *
          clear k0 c1 HN a4 hXl hc
          have hXl := a5.lt
          have c1 : w5.cell? ⟨X, 1, none⟩ = some (.int .i64 q.a) := a5.cell 1
          have hL := look_any on5.p q.a
          obtain ⟨H', hH'⟩ : ∃ H', H' = (updP H q.a c).2 := ⟨_, rfl⟩
          rw [← hH'] at hL on5
          obtain ⟨⟨N, E'⟩, hNE⟩ : ∃ l, l = lookP H' q.a := ⟨_, rfl⟩
          rw [← hNE] at hL
          dsimp only at hL
          have HNE : Hid ((N, E') = lookP H' q.a) := hNE
          have HH' : Hid (H' = (updP H q.a c).2) := hH'
          have HN5 : Hid (On _ _ _ _ _ _ _ _ _ _ _) := on5
          have HOK : Hid (OkH H') := by rw [hH']; exact ok_upd HO.out _ _
          clear hNE hH' on5
          go_wp2_with fail
          refine hL.mono ?_
          rintro e w6 ⟨rfl, u6⟩
          have on6 := HN5.out.up u6
          have hZ6 : Bk (w6.alloc (.cells #[.int .i64 0, .int .i64 0, .int .i64 0, .complex .f64 0 0, .bool false, .int .i64 0] 60)) w6.heap.size 60 (ndC nd0) := Bk.new w6 60 #[.int .i64 0, .int .i64 0, .int .i64 0, .complex .f64 0 0, .bool false, .int .i64 0]
          have v6 := below_alloc w6 (.cells #[.int .i64 0, .int .i64 0, .int .i64 0, .complex .f64 0 0, .bool false, .int .i64 0] 60)
          have s6 := u6.size
          have HN6 : Hid (On _ _ _ _ _ _ _ _ _ _ _) := on6
          clear on6 hL
          go_upto_region 35 with (refine wpList_storeN rfl 60 (.tmp 14) (.tmp 161) rfl w6.heap.size 0 (ndC N) rfl rfl hZ6 (Nat.le_refl 6) Try.infoNd (ndC_one _) ?_; intro w7 m7 hO7)
          rw [over_nd] at m7
          obtain ⟨z1, z2, z3, z4⟩ := HN6.out.out (Nat.le_refl _)
          have on7 := (HN6.out.up v6).oth hO7 z1 z2 z3 z4
          have a7 := ((a5.up u6).up v6).oth hO7 (by omega)
          have c7 : w7.cell? ⟨X, 1, none⟩ = some (.int .i64 q.a) := a7.cell 1
          obtain ⟨cd, hcd, hcs, _⟩ := kn_d HK.out q.a
          have hlk := on7.d.look_ok (t := 45) (e := 55) (by kernel_rfl) (by kernel_rfl) (zeroC w7) HW.out
          rw [hcd, hcs] at hlk
          have HN7 : Hid (On _ _ _ _ _ _ _ _ _ _ _) := on7
          have t7 := m7.lt
          have hZ7 : Bk (w7.alloc (.cells #[.int .i64 0, .complex .f64 0 0, .bool false, .int .i64 0] 55)) w7.heap.size 55 (clC cl0) := Bk.new w7 55 #[.int .i64 0, .complex .f64 0 0, .bool false, .int .i64 0]
          have v7 := below_alloc w7 (.cells #[.int .i64 0, .complex .f64 0 0, .bool false, .int .i64 0] 55)
          have ga : a7 = a7 := rfl
          clear on7 hO7 v6 hZ6 a5 u6 c1 hcd hcs HN6 HN5 z1 z2 z3 z4 ga
          obtain ⟨dk, ⟨dx, dy⟩, dr, da⟩ := cd
          unfold clV at hlk
          try dsimp only at hlk
          go_upto_region 36 with (refine wpList_storeN rfl 55 (.tmp 16) (.tmp 168) rfl w7.heap.size 0 (clC ⟨dk, (dx, dy), dr, da⟩) rfl rfl hZ7 (Nat.le_refl 4) Try.infoCl (clC_one _) ?_; intro w8 p8 hO8)
          obtain ⟨z1, z2, z3, z4⟩ := HN7.out.out (Nat.le_refl _)
          have on8 := (HN7.out.up v7).oth hO8 z1 z2 z3 z4
          have m8 := (m7.up v7).oth hO8 (by omega)
          have a8 := (a7.up v7).oth hO8 (by omega)
          have HN8 : Hid (On w w8 T' bh me md k H.up H' fE fD) := on8
          clear on8 hO8 v7 hZ7 m7 a7 p8 c7 hlk HN7 z1 z2 z3 z4
          rcases upd_cases H q.a c with ⟨hE0, hHH⟩ | ⟨hE0, i, hqa, hi, hs2, hHH⟩
          · obtain rfl : H' = H := HH'.out.trans hHH
            clear HH' hHH
            go_wp2_with fail
            go_roundw
            case rel => exact ⟨k + 1, by omega, H', T', fE, fD, by go_num, rfl, HN8.out.mono, HK.out, sz_mono HZ.out, HO.out⟩
            case measure => simp [intOf]; omega
          · have hNE : (N, E') = (⟨3, 0, c⟩, 0) := by
              rw [HNE.out, HH'.out, hHH, hqa]
              have h1 := look_set H i ⟨3, 0, c⟩ (H.up + 1) hi (i : Int)
              rw [if_pos rfl] at h1
              rcases look_cases { H with ns := H.ns.set i ⟨3, 0, c⟩, up := H.up + 1 } (i : Int) with e | ⟨j, hj, hj2, e⟩
              · rw [e] at h1
                cases h1
              · rw [e] at h1 ⊢
                exact Prod.ext h1 rfl
            simp only [Prod.mk.injEq] at hNE
            obtain ⟨rfl, rfl⟩ := hNE
            obtain ⟨y0, y1, y2, y3, y4, y5⟩ := bk_nd m8
            have c8 : w8.cell? ⟨X, 1, none⟩ = some (.int .i64 q.a) := a8.cell 1
            obtain ⟨se, he⟩ := HN8.out.e
            have hle := he.look (t := 44) (e := 3) (by kernel_rfl) (by kernel_rfl) (zeroI w8) HW.out
            rw [HK.out.e, if_pos (.inl hs2)] at hle
            have hfd : fD q.a = none := by rw [HK.out.d, if_neg (by omega)]
            have HFD : Hid (fD q.a = none) := hfd
            have HQA : Hid (q.a = i) := hqa
            have HHH : Hid (H' = { H with ns := H.ns.set i ⟨3, 0, c⟩, up := H.up + 1 }) := HH'.out.trans hHH
            have HS2 : Hid ((lookP H q.a).1.s = 2) := hs2
            obtain ⟨ck, ⟨cx, cy⟩, cr, ca⟩ := c
            clear he m8 a8 hfd hqa hHH HH'
            go_wp2_with (first
              | (at_mapUpdate; refine wpList_putI rfl (.tmp 189) (.tmp 191) (.tmp 193) rfl (k := 3) (e := 55) (by kernel_rfl) (by kernel_rfl) HN8.out.d (by unfold maxLen; omega) HW.out (clV ⟨ck, (cx, cy), cr, ca⟩) rfl rfl rfl ?_; intro w9 hM9 hg9))
            have on9 := HN8.out.putD hM9 hg9
            rw [HFD.out, if_neg (by simp)] at on9
            have HN9 : Hid (On _ _ _ _ _ _ _ _ _ _ _) := on9
            clear on9 hM9 hg9 HN8
            go_wp2_with fail
            go_roundw
            case rel =>
              have hh := HHH.out
              have hq := HQA.out
              have hon := HN9.out
              have hk := kn_upd HK.out hi (by rw [← hq]; exact HS2.out) ⟨ck, (cx, cy), cr, ca⟩ (H.up + 1)
              rw [← hh, ← hq] at hk
              exact ⟨k + 1, by omega, H', T', fE, _, by go_num, by rw [hh]; simp, by rw [show H'.up = H.up + 1 by rw [hh]]; exact hon, hk, by rw [hh]; have := HZ.out; unfold Sz at this ⊢; simp only [List.length_set]; omega, HOK.out⟩
            case measure => simp [intOf]; omega
      · obtain ⟨I, hI⟩ : ∃ I : Int, I = i := ⟨_, rfl⟩
        rw [← hI]
        have i0 : ¬ I = 0 := by omega
        have i1 : ¬ I = 1 := by omega
        have i2 : ¬ I = 2 := by omega
        have i6 : ¬ I = 6 := by omega
        clear hI h7 hi
        have hE := enter_any HN.out.p q.a
        obtain ⟨⟨⟨N, E⟩, H'⟩, hNE⟩ : ∃ l, l = enterP H q.a := ⟨_, rfl⟩
        rw [← hNE] at hE
        dsimp only at hE
        have hcs := enter_cases H q.a
        rw [← hNE] at hcs
        dsimp only at hcs
        have HOK : Hid (OkH H') := by have := ok_entered HO.out q.a; rw [← hNE] at this; exact this
        have HSZ : Hid (Sz (k + 1) H') := by have := sz_enter HZ.out q.a; rw [← hNE] at this; exact this
        have HCS : Hid _ := hcs
        clear hcs hNE
        go_wp2_with fail
        refine hE.mono ?_
        rintro e w5 ⟨rfl, hN5⟩
        obtain ⟨T', on5, s5, U5⟩ := HN.out.pcall hN5
        have a5 := U5.bk a4 HX.out.1
        have u5 := U5.size
        have hZ5 : Bk (w5.alloc (.cells #[.int .i64 0, .int .i64 0, .int .i64 0, .complex .f64 0 0, .bool false, .int .i64 0] 60)) w5.heap.size 60 (ndC nd0) := Bk.new w5 60 #[.int .i64 0, .int .i64 0, .int .i64 0, .complex .f64 0 0, .bool false, .int .i64 0]
        have v5 := below_alloc w5 (.cells #[.int .i64 0, .int .i64 0, .int .i64 0, .complex .f64 0 0, .bool false, .int .i64 0] 60)
        have HN5 : Hid (On _ _ _ _ _ _ _ _ _ _ _) := on5
        clear on5 s5 U5 hN5 hE c1 a4
        go_upto_region 13 with (refine wpList_storeN rfl 60 (.tmp 18) (.tmp 47) rfl w5.heap.size 0 (ndC N) rfl rfl hZ5 (Nat.le_refl 6) Try.infoNd (ndC_one _) ?_; intro w6 m6 hO6)
        rw [over_nd] at m6
        obtain ⟨z1, z2, z3, z4⟩ := HN5.out.out (Nat.le_refl _)
        have hme5 := z2
        have on6 := (HN5.out.up v5).oth hO6 z1 z2 z3 z4
        have a6 := (a5.up v5).oth hO6 (by have := a5.lt; omega)
        have c6 : w6.cell? ⟨X, 1, none⟩ = some (.int .i64 q.a) := a6.cell 1
        have HN6 : Hid (On w w6 T' bh me md k H.up H' fE fD) := on6
        clear on6 z1 z2 z3 z4 hO6 v5 hZ5 a5 HN5 HN
        rcases HCS.out with ⟨hE0, hHH, hs3⟩ | ⟨hE0, hs1, hNl, i, hqa, hi, hHH⟩ | ⟨hE0, hNl, hs1, hHH⟩
        · subst hHH
          obtain ⟨cd, hcd, hcs, hcq⟩ := kn_d HK.out q.a
          have hlk := HN6.out.d.look_ok (t := 45) (e := 55) (by kernel_rfl) (by kernel_rfl) (zeroC w6) HW.out
          rw [hcd, hcs] at hlk
          have hZ7 : Bk (w6.alloc (.cells #[.int .i64 0, .complex .f64 0 0, .bool false, .int .i64 0] 55)) w6.heap.size 55 (clC cl0) := Bk.new w6 55 #[.int .i64 0, .complex .f64 0 0, .bool false, .int .i64 0]
          have v7 := below_alloc w6 (.cells #[.int .i64 0, .complex .f64 0 0, .bool false, .int .i64 0] 55)
          clear hcd hcs hcq
          obtain ⟨dk, ⟨dx, dy⟩, dr, da⟩ := cd
          unfold clV at hlk
          try dsimp only at hlk
          go_upto_region 18 with (refine wpList_storeN rfl 55 (.tmp 20) (.tmp 71) rfl w6.heap.size 0 (clC ⟨dk, (dx, dy), dr, da⟩) rfl rfl hZ7 (Nat.le_refl 4) Try.infoCl (clC_one _) ?_; intro w9 p9 hO9)
          rw [over_cl] at p9
          obtain ⟨z1, z2, z3, z4⟩ := HN6.out.out (Nat.le_refl _)
          have on9 := (HN6.out.up v7).oth hO9 z1 z2 z3 z4
          have HN9 : Hid (On _ _ _ _ _ _ _ _ _ _ _) := on9
          have m9 := (m6.up v7).oth hO9 (by have := m6.lt; omega)
          obtain ⟨y0, y1, y2, y3, y4, y5⟩ := bk_nd m9
          clear on9 hO9 v7 hZ7 hlk z1 z2 z3 z4 m9 c6 p9
          go_wp2_with fail
          go_roundw
          case rel => exact ⟨k + 1, by omega, H', T', fE, fD, by go_num, rfl, HN9.out.mono, HK.out, HSZ.out, HOK.out⟩
          case measure => simp [intOf]; omega
        · subst hE0
          have hns : N.s = 1 := by rw [hNl]; exact hs1
          obtain ⟨n0, n1, n2, n3, n4, n5⟩ := bk_nd m6
          rw [hns] at n0
          obtain ⟨se, he⟩ := HN6.out.e
          have hle := he.look (t := 44) (e := 3) (by kernel_rfl) (by kernel_rfl) (zeroI w6) HW.out
          rw [HK.out.e, if_neg (by omega)] at hle
          have HHE : Hid (MapI _ _ _ _ _ _ _) := he
          have HQA : Hid (q.a = i) := hqa
          have HHH : Hid (H' = { H with ns := H.ns.set i ⟨2, 0, cl0⟩ }) := hHH
          have HNS : Hid (N.s = 1) := hns
          clear he hqa hHH hns hNl
          go_upto_region 17 with (at_mapUpdate; refine wpList_putI rfl (.tmp 56) (.tmp 58) (.tmp 60) rfl (k := 3) (e := 3) (by kernel_rfl) (by kernel_rfl) HHE.out (by unfold maxLen; omega) HW.out (.int .i64 1) rfl rfl rfl ?_; intro w7 hM7 hg7; have hle7 := hM7.look (t := 44) (e := 3) (by kernel_rfl) (by kernel_rfl) (zeroI w7) HW.out; rw [show (putI fE q.a (.int .i64 1)) q.a = some (.int .i64 1) by unfold putI; rw [if_pos rfl]] at hle7; have c7 : w7.cell? ⟨X, 1, none⟩ = some (.int .i64 q.a) := ((ButS.grown hg7).bk a6 HX.out.2.1).cell 1)
          have on7 := HN6.out.putE hM7 hg7
          have HN7 : Hid (On _ _ _ _ _ _ _ _ _ _ _) := on7
          have hm5 : w5.heap.size ≠ me := hme5
          have m7 := (ButS.grown hg7).bk m6 hm5
          clear on7 hM7 hg7 hle hle7 HHE n0 n1 n2 n3 n4 n5 c6
          have c6 := c7
          clear c7
          obtain ⟨cd, hcd, hcs, hcq⟩ := kn_d HK.out q.a
          have hlk := HN7.out.d.look_ok (t := 45) (e := 55) (by kernel_rfl) (by kernel_rfl) (zeroC w7) HW.out
          rw [hcd, hcs] at hlk
          have hZ7 : Bk (w7.alloc (.cells #[.int .i64 0, .complex .f64 0 0, .bool false, .int .i64 0] 55)) w7.heap.size 55 (clC cl0) := Bk.new w7 55 #[.int .i64 0, .complex .f64 0 0, .bool false, .int .i64 0]
          have v7 := below_alloc w7 (.cells #[.int .i64 0, .complex .f64 0 0, .bool false, .int .i64 0] 55)
          obtain ⟨dk, ⟨dx, dy⟩, dr, da⟩ := cd
          clear hcd hcs
          unfold clV at hlk
          try dsimp only at hlk
          go_upto_region 18 with (refine wpList_storeN rfl 55 (.tmp 20) (.tmp 71) rfl w7.heap.size 0 (clC ⟨dk, (dx, dy), dr, da⟩) rfl rfl hZ7 (Nat.le_refl 4) Try.infoCl (clC_one _) ?_; intro w9 p9 hO9)
          rw [over_cl] at p9
          obtain ⟨z1, z2, z3, z4⟩ := HN7.out.out (Nat.le_refl _)
          have on9 := (HN7.out.up v7).oth hO9 z1 z2 z3 z4
          have HN9 : Hid (On _ _ _ _ _ _ _ _ _ _ _) := on9
          have m9 := (m7.up v7).oth hO9 (by have := m7.lt; omega)
          obtain ⟨y0, y1, y2, y3, y4, y5⟩ := bk_nd m9
          rw [show N.s = 1 from HNS.out] at y0
          clear on9 hO9 v7 hZ7 hlk z1 z2 z3 z4 m9 c6 p9 hcq
          go_wp2_with fail
          go_roundw
          case rel =>
            have hh := HHH.out
            have hq := HQA.out
            have hk := kn_enter HK.out hi (by rw [← hq]; exact hs1)
            rw [← hh, ← hq] at hk
            have hon := HN9.out
            exact ⟨k + 1, by omega, H', T', _, fD, by go_num, by rw [hh]; simp, by rw [show H'.up = H.up by rw [hh]]; exact hon, hk, HSZ.out, HOK.out⟩
          case measure => simp [intOf]; omega
        · subst hHH
          subst hE0
          obtain ⟨n0, n1, n2, n3, n4, n5⟩ := bk_nd m6
          by_cases hs3 : N.s = 3
          · have hl3 : (lookP H' q.a).1.s = 3 := by rw [← hNl]; exact hs3
            have hvc : vc N.c.z.1 N.c.z.2 = true := by rw [hNl]; exact ok_get HO.out q.a
            rw [hs3] at n0
            obtain ⟨cd, hcd, hcs, hcq⟩ := kn_d HK.out q.a
            have hlk := HN6.out.d.look_ok (t := 45) (e := 55) (by kernel_rfl) (by kernel_rfl) (zeroC w6) HW.out
            rw [hcd, hcs] at hlk
            have hZ7 : Bk (w6.alloc (.cells #[.int .i64 0, .complex .f64 0 0, .bool false, .int .i64 0] 55)) w6.heap.size 55 (clC cl0) := Bk.new w6 55 #[.int .i64 0, .complex .f64 0 0, .bool false, .int .i64 0]
            have v7 := below_alloc w6 (.cells #[.int .i64 0, .complex .f64 0 0, .bool false, .int .i64 0] 55)
            obtain rfl : cd = N.c := (hcq hl3).trans (by rw [hNl])
            clear hcq hNl hs1
            clear hcd hcs
            unfold clV at hlk
            try dsimp only at hlk
            go_upto_region 18 with (refine wpList_storeN rfl 55 (.tmp 20) (.tmp 71) rfl w6.heap.size 0 (clC N.c) rfl rfl hZ7 (Nat.le_refl 4) Try.infoCl (clC_one _) ?_; intro w9 p9 hO9)
            rw [over_cl] at p9
            obtain ⟨z1, z2, z3, z4⟩ := HN6.out.out (Nat.le_refl _)
            have on9 := (HN6.out.up v7).oth hO9 z1 z2 z3 z4
            have HN9 : Hid (On _ _ _ _ _ _ _ _ _ _ _) := on9
            have m9 := (m6.up v7).oth hO9 (by have := m6.lt; omega)
            obtain ⟨y0, y1, y2, y3, y4, y5⟩ := bk_nd m9
            rw [hs3] at y0
            obtain ⟨t0, t1, t2, t3⟩ := bk_cl p9
            have hsm := same_any N.c N.c w9
            rw [sameC_refl hvc] at hsm
            clear on9 hO9 v7 hZ7 hlk z1 z2 z3 z4 m9 c6 p9 hvc
            go_wp2_with (go_at_call 19; refine hsm.mono ?_; rintro e w10 ⟨rfl, u10⟩)
            go_roundw
            case rel => exact ⟨k + 1, by omega, H', T', fE, fD, by go_num, rfl, (HN9.out.up u10).mono, HK.out, HSZ.out, HOK.out⟩
            case measure => simp [intOf]; omega
          · have hns1 : ¬ N.s = 1 := by rw [hNl]; exact hs1
            have hl3 : ¬ (lookP H' q.a).1.s = 3 := by rw [← hNl]; exact hs3
            obtain ⟨cd, hcd, hcs, hcq⟩ := kn_d HK.out q.a
            have hlk := HN6.out.d.look_ok (t := 45) (e := 55) (by kernel_rfl) (by kernel_rfl) (zeroC w6) HW.out
            rw [hcd, hcs] at hlk
            have hZ7 : Bk (w6.alloc (.cells #[.int .i64 0, .complex .f64 0 0, .bool false, .int .i64 0] 55)) w6.heap.size 55 (clC cl0) := Bk.new w6 55 #[.int .i64 0, .complex .f64 0 0, .bool false, .int .i64 0]
            have v7 := below_alloc w6 (.cells #[.int .i64 0, .complex .f64 0 0, .bool false, .int .i64 0] 55)
            clear hcd hcs hcq
            obtain ⟨dk, ⟨dx, dy⟩, dr, da⟩ := cd
            unfold clV at hlk
            try dsimp only at hlk
            go_upto_region 18 with (refine wpList_storeN rfl 55 (.tmp 20) (.tmp 71) rfl w6.heap.size 0 (clC ⟨dk, (dx, dy), dr, da⟩) rfl rfl hZ7 (Nat.le_refl 4) Try.infoCl (clC_one _) ?_; intro w9 p9 hO9)
            rw [over_cl] at p9
            obtain ⟨z1, z2, z3, z4⟩ := HN6.out.out (Nat.le_refl _)
            have on9 := (HN6.out.up v7).oth hO9 z1 z2 z3 z4
            have HN9 : Hid (On _ _ _ _ _ _ _ _ _ _ _) := on9
            have m9 := (m6.up v7).oth hO9 (by have := m6.lt; omega)
            obtain ⟨y0, y1, y2, y3, y4, y5⟩ := bk_nd m9
            clear on9 hO9 v7 hZ7 hlk z1 z2 z3 z4 m9 c6 p9
            go_wp2_with fail
            go_roundw
            case rel => exact ⟨k + 1, by omega, H', T', fE, fD, by go_num, rfl, HN9.out.mono, HK.out, HSZ.out, HOK.out⟩
            case measure => simp [intOf]; omega
    · have h1 := counts_any on.p
      obtain ⟨se, he⟩ := on.e
      have HN : Hid (On _ _ _ _ _ _ _ _ _ _ _) := on
      clear on he
      go_wp2_with fail
      refine h1.mono ?_
      rintro e w5 ⟨rfl, u5⟩
      have on5 := HN.out.up u5
      have hlen := on5.d.len (t := 45) (e := 55) (by kernel_rfl) 3
      have HB : Hid (Below _ _ _) := on5.bw
      clear on5 h1
      go_wp2
      go_ret
      exact ⟨by simp, HB.out⟩
end Go.Proofs.Ytdbnlgjpfkfnjaa
