/-
  A heap's calls that make something: nodes and pairs.
-/
import Derived.Test.YtdbnlgjpfkfnjaaDc
import Derived.Deep.Cut
namespace Go.Proofs.Ytdbnlgjpfkfnjaa
open Go.RowKit
open Go.Lib
set_option maxRecDepth 100000

theorem Try.infoNd3 : (Try.prog.info? 60).map (fun i => (i.zero, i.size, i.bytes)) = some (some (.agg #[.int .i64 0, .int .i64 0, .int .i64 0, .complex .f64 0 0, .bool false, .int .i64 0]), 6, 56) := by kernel_rfl
theorem Try.underNs : Try.prog.underlying 27 = some (.slice 60) := by kernel_rfl

/-- What a call has made of a heap: all but its blocks stays, and it is this now. -/
def HpN (tH tP : TypeId) (S : Nat → Prop) (w w' : World) (b : Nat) (H : Hm) : Prop :=
  ButS S w w' ∧ HpW tH tP (fun k => S k ∨ (w.heap.size ≤ k ∧ k < w'.heap.size)) w' b H
/-- So many at most. -/
def Sz (n : Nat) (H : Hm) : Prop := H.ns.length ≤ n ∧ H.ps.length ≤ n ∧ H.th ≤ n ∧ H.up ≤ n
theorem ButS.refl' {S : Nat → Prop} {w w' : World} (h : ButS S w w') : ∀ k, k < w.heap.size → k < w'.heap.size := fun _ hk => Nat.lt_of_lt_of_le hk h.size
theorem HpW.toN {tH tP : TypeId} {S : Nat → Prop} {w w' : World} {b : Nat} {H : Hm} (h : HpW tH tP S w b H) (hb : Below w.heap.size w w') : HpN tH tP S w w' b H :=
  ⟨.below hb, (h.up hb).mono (fun _ hk => .inl hk) fun k hk => hk.elim (fun h' => Nat.lt_of_lt_of_le (h.lt k h') hb.size) fun h' => h'.2⟩

/-- The types of a heap's blocks are three. -/
structure Tys (tH tP : TypeId) : Prop where
  hn : tH ≠ 60
  pn : tP ≠ 60
  hp : tH ≠ tP
theorem tysP : Tys 73 87 := ⟨by decide, by decide, by decide⟩
theorem tysR : Tys 30 80 := ⟨by decide, by decide, by decide⟩
theorem rows_blk {α : Type} {w : World} {T : TypeId} {k : Nat} {C : α → List Value} {v : Value} {xs : List α} (h : Rows_ w T k C v xs) {g : Nat} (hg : v.ownBlock = some g) : ∃ cur, w.heap[g]? = some (.cells cur T (0, 0)) := by
  rcases h.2 with ⟨rfl, _⟩ | ⟨g', cap, cur, rfl, _, h3, _⟩
  · cases hg
  · cases hg; exact ⟨cur, h3⟩
theorem rows_two {α β : Type} {w : World} {T U : TypeId} {k l : Nat} {C : α → List Value} {D : β → List Value} {v u : Value} {xs : List α} {ys : List β} (h : Rows_ w T k C v xs) (hu : Rows_ w U l D u ys) (hT : U ≠ T) {g : Nat} (hg : u.ownBlock = some g) : v.ownBlock ≠ some g := by
  obtain ⟨cur, hc⟩ := rows_blk hu hg
  exact owns_ne h hc hT

/-- A node appended to a heap's nodes, the new slice stored in the heap. -/
theorem node_app {tH tP : TypeId} (hT : Tys tH tP) {S : Nat → Prop} {w : World} {b : Nat} {H : Hm} (h1 : ∀ k, S k → k < w.heap.size) (h2 : S b) {vn vp : Value} (hB : Bk w b tH [vn, vp, .int .i64 H.th, .int .i64 H.up]) (hN : Rows_ w 60 6 ndC vn H.ns) (hP : Rows_ w tP 8 prC vp H.ps) (h3 : ∀ k, vn.ownBlock = some k → S k) (h4 : ∀ k, vp.ownBlock = some k → S k)
    (n : Nd) {W : World} (hW : Below w.heap.size w W) {g : Nat} (hg : W.rangeAt g 0 (ndC n)) {k : Nat} (hk : Sz k H) (hl : k < 1300000000000) :
    ∃ v' w', (Builtin.append_ #[27, 27] 27 #[vn, .slice (some ⟨g, 0, none⟩) 1 1]).run Try.prog W = .ok v' w' ∧ (∃ ao cap, v' = .slice ao (H.ns.length + 1) cap) ∧
      Bk w' b tH [vn, vp, .int .i64 H.th, .int .i64 H.up] ∧ HpN tH tP S w (w'.setCell ⟨b, 0, none⟩ v') b { H with ns := H.ns ++ [n] } := by
  have hN' : Rows_ W 60 6 ndC vn H.ns := hN.keep fun g hg => hW.block g (hN.lt hg)
  obtain ⟨v', w', R, hN2, hU, hat⟩ := hN'.app (P := Try.prog) ndC_len ndC_one Try.underNs Try.infoNd3 rfl (by decide) n (a := ⟨g, 0, none⟩) (c := 1) (fun j u hj => by rw [Addr.add_mid]; exact hg j u hj) (by unfold maxLen; have := hk.1; omega) (by have := hk.1; omega)
  obtain ⟨ao, cap, e1, _, _⟩ := hN2.slice
  have hUS : ButS S w w' := (ButS.below hW).trans (hU.mono h3)
  have hne : vn.ownBlock ≠ some b := owns_ne hN hB hT.hn
  have hpb : vp.ownBlock ≠ some b := owns_ne hP hB hT.hp
  have hB2 : Bk w' b tH [vn, vp, .int .i64 H.th, .int .i64 H.up] := hU.bk (hB.up hW) hne
  have hO : Oth b w' (w'.setCell ⟨b, 0, none⟩ v') := (Oth.refl b w').set 0 v'
  have hbl := hB.lt
  have hWs := hW.size
  have hws := hU.size
  have hbn : v'.ownBlock ≠ some b := by
    intro e
    rcases hat with e' | e'
    · rw [e'] at e; exact hne e
    · rw [e'] at e
      simp only [Option.some.injEq] at e
      omega
  have hP2 : Rows_ w' tP 8 prC vp H.ps := (hP.keep (w' := W) fun g hg => hW.block g (hP.lt hg)).keep fun g hg => hU.block g (Nat.lt_of_lt_of_le (hP.lt hg) hWs) (rows_two hN hP hT.pn hg)
  rw [List.length_append, List.length_singleton] at e1
  refine ⟨v', w', R, ⟨ao, cap, e1⟩, hB2, hUS.trans ((ButS.oth hO).mono fun k e => by rw [e]; exact h2), ?_⟩
  refine ⟨fun k hk => ?_, .inl h2, v', vp, hB2.set 0 v', hN2.keep fun g hg => hO.block g fun e => hbn (by rw [← e]; exact hg), hP2.keep fun g hg => hO.block g fun e => hpb (by rw [← e]; exact hg), fun k hk => ?_, fun k hk => .inl (h4 k hk)⟩
  · rcases hk with hk | hk
    · rw [hO.size]
      have := h1 k hk
      omega
    · exact hk.2
  · rcases hat with e' | e'
    · rw [e'] at hk; exact .inl (h3 k hk)
    · rw [e'] at hk
      simp only [Option.some.injEq] at hk
      right
      have := hN2.lt (g := k) (by rw [e', hk])
      rw [hO.size]
      omega
set_option maxHeartbeats 1000000 in
theorem add_any {S : Nat → Prop} {w : World} {b : Nat} {H : Hm} (h : HpW 73 87 S w b H) (n : Nd) {k : Nat} (hk : Sz k H) (hl : k < 1300000000000) :
    Calls Try.prog 30 #[.pointer (some ⟨b, 0, none⟩), ndV n] w fun e w' => e = .returned (.int .i64 H.ns.length) ∧ HpN 73 87 S w w' b { H with ns := H.ns ++ [n] } := by
  obtain ⟨h1, h2, vn, vp, hB, hN, hP, h3, h4⟩ := h
  unfold ndV
  obtain ⟨s, t, ⟨ck, ⟨x, y⟩, r, a⟩⟩ := n
  have hb0 := below_alloc w (.cells #[.int .i64 s, .int .i64 t, .int .i64 ck, .complex .f64 x y, .bool r, .int .i64 a] 60)
  have hX := Bk.new w 60 #[.int .i64 s, .int .i64 t, .int .i64 ck, .complex .f64 x y, .bool r, .int .i64 a]
  have hBW := hB.up hb0
  go_enter Try.func30, Try.ntmps30
  go_upto_region 1 with fail
  generalize w.alloc (.cells #[.int .i64 s, .int .i64 t, .int .i64 ck, .complex .f64 x y, .bool r, .int .i64 a] 60) = W at *
  have d0 : W.cell? ⟨w.heap.size, 0, none⟩ = some (.int .i64 s) := hX.cell 0
  have d1 : W.cell? ⟨w.heap.size, 1, none⟩ = some (.int .i64 t) := hX.cell 1
  have d2 : W.cell? ⟨w.heap.size, 2, none⟩ = some (.int .i64 ck) := hX.cell 2
  have d3 : W.cell? ⟨w.heap.size, 3, none⟩ = some (.complex .f64 x y) := hX.cell 3
  have d4 : W.cell? ⟨w.heap.size, 4, none⟩ = some (.bool r) := hX.cell 4
  have d5 : W.cell? ⟨w.heap.size, 5, none⟩ = some (.int .i64 a) := hX.cell 5
  have c0 : W.cell? ⟨b, 0, none⟩ = some vn := hBW.cell 0
  have hbW := below_alloc W.drew (.cells #[.int .i64 s, .int .i64 t, .int .i64 ck, .complex .f64 x y, .bool r, .int .i64 a] 60)
  have hXW : Bk (W.drew.alloc (.cells #[.int .i64 s, .int .i64 t, .int .i64 ck, .complex .f64 x y, .bool r, .int .i64 a] 60)) W.heap.size 60 (ndC ⟨s, t, ⟨ck, ⟨x, y⟩, r, a⟩⟩) := Bk.new W.drew 60 #[.int .i64 s, .int .i64 t, .int .i64 ck, .complex .f64 x y, .bool r, .int .i64 a]
  obtain ⟨v', w', R, ⟨ao, cap, rfl⟩, hB2, hH⟩ := node_app tysP h1 h2 hB hN hP h3 h4 ⟨s, t, ⟨ck, ⟨x, y⟩, r, a⟩⟩ (Below.thn hb0 (Below.thn (Below.refl W.heap.size W).drew hbW)) (hXW.range 0 6) hk hl
  have c0' : w'.cell? ⟨b, 0, none⟩ = some vn := hB2.cell 0
  have c0x : (W.alloc (.cells #[.int .i64 s, .int .i64 t, .int .i64 ck, .complex .f64 x y, .bool r, .int .i64 a] 60)).cell? ⟨b, 0, none⟩ = some vn := (hBW.up (below_alloc W _)).cell 0
  have f0' : w'.frozen? ⟨b, 0, none⟩ = false := hB2.frz 0
  have HR : Hid (_ = _) := R
  have HH : Hid (HpN _ _ _ _ _ _ _) := hH
  have hs2 : (w'.setCell ⟨b, 0, none⟩ (.slice ao (H.ns.length + 1) cap)).cell? ⟨b, 0, none⟩ = some (.slice ao (H.ns.length + 1) cap) := (hB2.set 0 (.slice ao (H.ns.length + 1) cap)).cell 0
  have hwr : wrap64 (H.ns.length : Int) = H.ns.length := by
    have := hk.1
    unfold wrap64
    omega
  clear R hH hB2 hXW hbW hBW hX hB hN hP
  go_region_law (refine step_append_runU rfl (.tmp 9) (.tmp 11) 27 27 rfl rfl _ _ (by simp [Act.eval]) (by simp [Act.eval]) _ _ (show _ = _ from HR.out) ?_)
  all_goals
    go_wp2
    go_ret
    exact ⟨by simp [hwr], HH.out⟩
theorem set_th {tH tP : TypeId} (hT : Tys tH tP) {S : Nat → Prop} {w : World} {b : Nat} {H : Hm} (h : HpW tH tP S w b H) (n : Nat) : HpW tH tP S (w.setCell ⟨b, 2, none⟩ (.int .i64 n)) b { H with th := n } ∧ ButS S w (w.setCell ⟨b, 2, none⟩ (.int .i64 n)) := by
  obtain ⟨h1, h2, vn, vp, hB, hN, hP, h3, h4⟩ := h
  have hO := (Oth.refl b w).set 2 (.int .i64 n)
  refine ⟨⟨fun k hk => by rw [hO.size]; exact h1 k hk, h2, vn, vp, hB.set 2 (.int .i64 n), hN.keep fun g hg => hO.block g fun e => owns_ne hN hB hT.hn (by rw [← e]; exact hg), hP.keep fun g hg => hO.block g fun e => owns_ne hP hB hT.hp (by rw [← e]; exact hg), h3, h4⟩, (ButS.oth hO).mono fun k e => by rw [e]; exact h2⟩
theorem set_up {tH tP : TypeId} (hT : Tys tH tP) {S : Nat → Prop} {w : World} {b : Nat} {H : Hm} (h : HpW tH tP S w b H) (n : Nat) : HpW tH tP S (w.setCell ⟨b, 3, none⟩ (.int .i64 n)) b { H with up := n } ∧ ButS S w (w.setCell ⟨b, 3, none⟩ (.int .i64 n)) := by
  obtain ⟨h1, h2, vn, vp, hB, hN, hP, h3, h4⟩ := h
  have hO := (Oth.refl b w).set 3 (.int .i64 n)
  refine ⟨⟨fun k hk => by rw [hO.size]; exact h1 k hk, h2, vn, vp, hB.set 3 (.int .i64 n), hN.keep fun g hg => hO.block g fun e => owns_ne hN hB hT.hn (by rw [← e]; exact hg), hP.keep fun g hg => hO.block g fun e => owns_ne hP hB hT.hp (by rw [← e]; exact hg), h3, h4⟩, (ButS.oth hO).mono fun k e => by rw [e]; exact h2⟩
theorem HpN.of {tH tP : TypeId} {S : Nat → Prop} {w w1 w' : World} {b : Nat} {H : Hm} (h : HpN tH tP S w1 w' b H) (hb : ButS S w w1) : HpN tH tP S w w' b H :=
  ⟨hb.trans h.1, h.2.mono (fun k hk => hk.imp id fun h' => ⟨Nat.le_trans hb.size h'.1, h'.2⟩) fun k hk => by
    rcases hk with hk | hk
    · exact h.2.lt k (.inl hk)
    · exact hk.2⟩
theorem HpN.then {tH tP : TypeId} {S : Nat → Prop} {w w1 w' : World} {b : Nat} {H : Hm} (h : HpN tH tP S w w1 b H) (hb : Below w1.heap.size w1 w') : HpN tH tP S w w' b H :=
  ⟨h.1.trans (.below hb), (h.2.up hb).mono (fun k hk => hk.imp id fun h' => ⟨h'.1, Nat.lt_of_lt_of_le h'.2 hb.size⟩) fun k hk => by
    rcases hk with hk | hk
    · exact Nat.lt_of_lt_of_le (h.2.lt k (.inl hk)) hb.size
    · exact hk.2⟩
/-- Two steps: the second among the blocks that the first left. -/
theorem HpN.two {tH tP : TypeId} {S : Nat → Prop} {w w1 w' : World} {b : Nat} {H H' : Hm} (h : HpN tH tP S w w1 b H) (hk : HpN tH tP (fun k => S k ∨ (w.heap.size ≤ k ∧ k < w1.heap.size)) w1 w' b H') : HpN tH tP S w w' b H' := by
  have hs := h.1.size
  have hs' := hk.1.size
  refine ⟨⟨hk.1.os.trans h.1.os, hk.1.tape.trans h.1.tape, hk.1.output.trans h.1.output, Nat.le_trans hs hs', fun k hl hn => (hk.1.block k (by omega) fun e => ?_).trans (h.1.block k hl hn)⟩, hk.2.mono (fun k e => ?_) fun k e => ?_⟩
  · rcases e with e | e
    · exact hn e
    · omega
  · rcases e with (e | e) | e
    · exact .inl e
    · exact .inr ⟨e.1, by omega⟩
    · exact .inr ⟨by omega, e.2⟩
  · rcases e with e | e
    · exact hk.2.lt k (.inl (.inl e))
    · exact e.2

set_option maxHeartbeats 1000000 in
theorem delay_any {S : Nat → Prop} {w : World} {b : Nat} {H : Hm} (h : HpW 73 87 S w b H) (t : Int) {k : Nat} (hk : Sz k H) (hl : k < 1260000000000) :
    Calls Try.prog 12 #[.pointer (some ⟨b, 0, none⟩), .int .i64 t] w fun e w' => e = .returned (.tuple #[.int .i64 H.ns.length, .int .i64 0]) ∧ HpN 73 87 S w w' b { H with ns := H.ns ++ [⟨1, t, cl0⟩], th := H.th + 1 } := by
  obtain ⟨h5, hU⟩ := set_th tysP h (H.th + 1)
  have hsz : Sz (k + 1) { H with th := H.th + 1 } := by unfold Sz at hk ⊢; dsimp only; omega
  have ha := add_any h5 ⟨1, t, cl0⟩ hsz (by omega)
  obtain ⟨h1, h2, vn, vp, hB, hN, hP, h3, h4⟩ := h
  have c2 : w.cell? ⟨b, 2, none⟩ = some (.int .i64 H.th) := hB.cell 2
  have f2 : w.frozen? ⟨b, 2, none⟩ = false := hB.frz 2
  have ht : H.th < 1300000000000 := by have := hk.2.2.1; omega
  have HU : Hid (ButS S w _) := hU
  clear h5 hU hsz hk hB hN hP h3 h4 h1
  go_enter Try.func12, Try.ntmps12
  go_wp2_with (go_at_call 30; refine ha.mono ?_; rintro e w' ⟨rfl, hH⟩)
  exact bodyPost_ret (v := .tuple #[.int .i64 H.ns.length, .int .i64 0]) (by simp [results, Try.results12, go_sem]) rfl ⟨rfl, hH.of HU.out⟩

theorem poison_any {S : Nat → Prop} {w : World} {b : Nat} {H : Hm} (h : HpW 73 87 S w b H) {k : Nat} (hk : Sz k H) (hl : k < 1260000000000) :
    Calls Try.prog 13 #[.pointer (some ⟨b, 0, none⟩)] w fun e w' => e = .returned (.tuple #[.int .i64 H.ns.length, .int .i64 0]) ∧ HpN 73 87 S w w' b { H with ns := H.ns ++ [⟨4, 0, cl0⟩] } := by
  have ha := add_any h ⟨4, 0, cl0⟩ hk (by omega)
  go_enter Try.func13, Try.ntmps13
  go_wp2_with (go_at_call 30; refine ha.mono ?_; rintro e w' ⟨rfl, hH⟩)
  exact bodyPost_ret (v := .tuple #[.int .i64 H.ns.length, .int .i64 0]) (by simp [results, Try.results13, go_sem]) rfl ⟨rfl, hH⟩

theorem Try.infoPr3 : (Try.prog.info? 87).map (fun i => (i.zero, i.size, i.bytes)) = some (some (.agg #[.int .i64 0, .complex .f64 0 0, .bool false, .int .i64 0, .int .i64 0, .complex .f64 0 0, .bool false, .int .i64 0]), 8, 80) := by kernel_rfl
theorem Try.underPrs : Try.prog.underlying 71 = some (.slice 87) := by kernel_rfl
/-- A pair appended to a heap's pairs, the new slice stored in the heap. -/
theorem pair_app {tH tP ts : TypeId} (hT : Tys tH tP) (hu : Try.prog.underlying ts = some (.slice tP)) (hi : (Try.prog.info? tP).map (fun i => (i.zero, i.size, i.bytes)) = some (some (.agg #[.int .i64 0, .complex .f64 0 0, .bool false, .int .i64 0, .int .i64 0, .complex .f64 0 0, .bool false, .int .i64 0]), 8, 80)) {S : Nat → Prop} {w : World} {b : Nat} {H : Hm} (h1 : ∀ k, S k → k < w.heap.size) (h2 : S b) {vn vp : Value} (hB : Bk w b tH [vn, vp, .int .i64 H.th, .int .i64 H.up]) (hN : Rows_ w 60 6 ndC vn H.ns) (hP : Rows_ w tP 8 prC vp H.ps) (h3 : ∀ k, vn.ownBlock = some k → S k) (h4 : ∀ k, vp.ownBlock = some k → S k)
    (n : Cl × Cl) {W : World} (hW : Below w.heap.size w W) {g : Nat} (hg : W.rangeAt g 0 (prC n)) {k : Nat} (hk : Sz k H) (hl : k < 1300000000000) :
    ∃ v' w', (Builtin.append_ #[ts, ts] ts #[vp, .slice (some ⟨g, 0, none⟩) 1 1]).run Try.prog W = .ok v' w' ∧ (∃ ao cap, v' = .slice ao (H.ps.length + 1) cap) ∧
      Bk w' b tH [vn, vp, .int .i64 H.th, .int .i64 H.up] ∧ HpN tH tP S w (w'.setCell ⟨b, 1, none⟩ v') b { H with ps := H.ps ++ [n] } := by
  have hP' : Rows_ W tP 8 prC vp H.ps := hP.keep fun g hg => hW.block g (hP.lt hg)
  obtain ⟨v', w', R, hP2, hU, hat⟩ := hP'.app (P := Try.prog) prC_len prC_one hu hi rfl (by decide) n (a := ⟨g, 0, none⟩) (c := 1) (fun j u hj => by rw [Addr.add_mid]; exact hg j u hj) (by unfold maxLen; have := hk.2.1; omega) (by have := hk.2.1; omega)
  obtain ⟨ao, cap, e1, _, _⟩ := hP2.slice
  have hUS : ButS S w w' := (ButS.below hW).trans (hU.mono h4)
  have hne : vn.ownBlock ≠ some b := owns_ne hN hB hT.hn
  have hpb : vp.ownBlock ≠ some b := owns_ne hP hB hT.hp
  have hB2 : Bk w' b tH [vn, vp, .int .i64 H.th, .int .i64 H.up] := hU.bk (hB.up hW) hpb
  have hO : Oth b w' (w'.setCell ⟨b, 1, none⟩ v') := (Oth.refl b w').set 1 v'
  have hbl := hB.lt
  have hWs := hW.size
  have hws := hU.size
  have hbn : v'.ownBlock ≠ some b := by
    intro e
    rcases hat with e' | e'
    · rw [e'] at e; exact hpb e
    · rw [e'] at e
      simp only [Option.some.injEq] at e
      omega
  have hN2 : Rows_ w' 60 6 ndC vn H.ns := (hN.keep (w' := W) fun g hg => hW.block g (hN.lt hg)).keep fun g hg => hU.block g (Nat.lt_of_lt_of_le (hN.lt hg) hWs) (rows_two hP hN hT.pn.symm hg)
  rw [List.length_append, List.length_singleton] at e1
  refine ⟨v', w', R, ⟨ao, cap, e1⟩, hB2, hUS.trans ((ButS.oth hO).mono fun k e => by rw [e]; exact h2), ?_⟩
  refine ⟨fun k hk => ?_, .inl h2, vn, v', hB2.set 1 v', hN2.keep fun g hg => hO.block g fun e => hne (by rw [← e]; exact hg), hP2.keep fun g hg => hO.block g fun e => hbn (by rw [← e]; exact hg), fun k hk => .inl (h3 k hk), fun k hk => ?_⟩
  · rcases hk with hk | hk
    · rw [hO.size]
      have := h1 k hk
      omega
    · exact hk.2
  · rcases hat with e' | e'
    · rw [e'] at hk; exact .inl (h4 k hk)
    · rw [e'] at hk
      simp only [Option.some.injEq] at hk
      right
      have := hP2.lt (g := k) (by rw [e', hk])
      rw [hO.size]
      omega
end Go.Proofs.Ytdbnlgjpfkfnjaa
