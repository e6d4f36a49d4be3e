/-
  4 texts in one: what each proves stands at its head.
-/
import Derived.Test.YtaneibojiamjeaaGreatDoorUkb
import Derived.Test.YtaneibojiamjeaaGreatDoorUq
import Derived.Test.YtaneibojiamjeaaGreatDoorShi
import Derived.Test.YtaneibojiamjeaaGreatDoorUl
import Derived.BigQuiet
import Derived.Test.YtaneibojiamjeaaGreatDoorUD
import Derived.Laws.MakeOwn
/-
  Names sorted, each once: names.sorted, Free.
-/
namespace Go.Proofs.YtaneibojiamjeaaGreatDoor
open Go.RowKit Go.Maps Go.Sort Go.Shelf
set_option maxRecDepth 100000

/-- The names of a list, each once, by their bytes. -/
def IsSrt (l o : List (List UInt8)) : Prop := o.Pairwise (· < ·) ∧ ∀ x, x ∈ o ↔ x ∈ l
theorem IsSrt.nodup {l o : List (List UInt8)} (h : IsSrt l o) : o.Nodup := h.1.imp fun {a b} hab e => by subst e; exact List.lt_irrefl a hab
theorem IsSrt.one {l l' o o' : List (List UInt8)} (h : IsSrt l o) (h' : IsSrt l' o') (e : ∀ x, x ∈ l ↔ x ∈ l') : o = o' := by
  have hp : o.Perm o' := (List.perm_ext_iff_of_nodup h.nodup h'.nodup).2 fun x => by rw [h.2, h'.2, e]
  exact List.Perm.eq_of_pairwise (le := fun a b => a < b) (fun a b _ _ h1 h2 => absurd h2 (List.lt_asymm h1)) h.1 h'.1 hp
theorem isSrt_merge {ss l : List (List UInt8)} (hn : ss.Nodup) (hm : ∀ x, x ∈ ss ↔ x ∈ l) : IsSrt l (ss.mergeSort Go.leB) := by
  have tr : ∀ a b c : List UInt8, Go.leB a b = true → Go.leB b c = true → Go.leB a c = true := fun a b c h1 h2 => by simp only [Go.leB, decide_eq_true_eq] at *; exact List.le_trans h1 h2
  have tot : ∀ a b : List UInt8, (Go.leB a b || Go.leB b a) = true := fun a b => by simp only [Go.leB, Bool.or_eq_true, decide_eq_true_eq]; exact List.le_total a b
  have hn' : (ss.mergeSort Go.leB).Nodup := (List.mergeSort_perm ss Go.leB).nodup_iff.2 hn
  refine ⟨((List.pairwise_mergeSort tr tot ss).and hn').imp fun {a b} h => ?_, fun x => by rw [(List.mergeSort_perm ss Go.leB).mem_iff, hm]⟩
  obtain ⟨h1, h2⟩ := h
  simp only [Go.leB, decide_eq_true_eq] at h1
  exact Decidable.byContradiction fun hx => h2 (List.le_antisymm h1 hx)
theorem exists_nodup : ∀ l : List (List UInt8), ∃ s : List (List UInt8), s.Nodup ∧ (∀ x, x ∈ s ↔ x ∈ l) ∧ s.length ≤ l.length
  | [] => ⟨[], List.nodup_nil, fun _ => Iff.rfl, Nat.le_refl _⟩
  | x :: l => by
    obtain ⟨s, h1, h2, h3⟩ := exists_nodup l
    by_cases h : x ∈ s
    · refine ⟨s, h1, fun y => ?_, by simp only [List.length_cons]; omega⟩
      rw [List.mem_cons]
      constructor
      · exact fun k => .inr ((h2 y).1 k)
      · rintro (rfl | k)
        · exact h
        · exact (h2 y).2 k
    · exact ⟨x :: s, List.nodup_cons.2 ⟨h, h1⟩, fun y => by rw [List.mem_cons, List.mem_cons (l := l), h2], by simp only [List.length_cons]; omega⟩
theorem OwN.base {w : World} {B B' : Nat} {v : Value} {ws : List (List UInt8)} (h : OwN w B v ws) (hb : B' ≤ B) : OwN w B' v ws := by
  refine ⟨h.1, ?_⟩
  rcases h.2 with h | ⟨g, c, cur, h1, h2, h3⟩
  · exact .inl h
  · exact .inr ⟨g, c, cur, h1, by omega, h3⟩

theorem OwN.upp {w w' : World} {B : Nat} {v : Value} {xs : List (List UInt8)} (h : OwN w B v xs) (hb : Below w.heap.size w w') : OwN w' B v xs :=
  owns_keep h fun b hk => hb.block b (owns_has h b hk).2

theorem Tryz.sorts (m : Nat) : AnyZ.SortsIn Tryz.prog Tryz.sorted58_ren Fence.wide m :=
  ⟨fun blk off cap ss W hH hblk hsz => callsIn_wide.2 (AnyM.slices_Sort_string Tryz.sort70 blk off cap ss W hH hblk hsz),
   fun p cap W => callsIn_wide.2 (AnyM.slices_Sort_string_none Tryz.sort70 p cap W)⟩

set_option maxHeartbeats 4000000 in
theorem sorted6_any {w : World} {m : Nat} {l : List (List UInt8)} (hM : Sn w m l) (hl : l.length ≤ 1099511627776) :
    Calls Tryz.prog 33 #[.map (some m)] w fun e w' => (∃ v o, e = .returned v ∧ IsSrt l o ∧ OwN w' w.heap.size v o) ∧ Below w.heap.size w w' := by
  obtain ⟨D0, hown, hD⟩ := hM
  obtain ⟨s0, hs1, hs2, hs3⟩ := exists_nodup l
  obtain ⟨es, hDe, hpw, _⟩ := hown.entries (string_keyed Tryz.underlying9)
  obtain ⟨es', hDe', hko⟩ := hown.keysOf
  obtain rfl : es = es' := by rw [hDe] at hDe'; simpa using hDe'
  have hhas : ∀ x, x ∈ s0 ↔ has (.map es) (.string x) = true := fun x => by
    rw [← hDe, (hD x).1, hs2]
    by_cases h : x ∈ l <;> simp [h]
  have hperm : s0.Perm (strKeys D0) := by
    rw [hDe]
    exact perm_strKeys hpw (fun p hp => by obtain ⟨v, hv⟩ := hko p hp; obtain ⟨x, _, hx, _⟩ := Maps.keyOf_str Tryz.underlying9 hv; exact ⟨x, hx⟩) hs1 hhas
  have hsz : Maps.size D0 ≤ 1099511627776 := by
    have h1 := hperm.length_eq
    have h2 : (strKeys D0).length = Maps.size D0 := by rw [hDe]; simp [strKeys, Maps.size]
    omega
  have hfin : ∀ ss : List (List UInt8), ss.Perm (strKeys D0) → IsSrt l (ss.mergeSort fun x y => decide (x ≤ y)) := fun ss hp => by
    have hp2 : ss.Perm s0 := hp.trans hperm.symm
    exact isSrt_merge (hp2.nodup_iff.2 hs1) fun x => by rw [hp2.mem_iff, hs2]
  clear hDe hDe' hpw hko hhas hperm hs1 hs2 hs3 hD
  refine (callsIn_wide (n := 6)).1 ?_
  have hbl := hown.lt
  have hseq : SeqGives Fence.wide 2 Tryz.prog 71 #[.pointer (some ⟨w.heap.size, 0, none⟩)] encStr (fun ss => ss.Perm (strKeys D0)) (Maps.size D0) (w.alloc (.cells #[.map (some m)] 74)) :=
    AnyZ.keys_gives (ρ := Tryz.keys59_ren) { Tryz.keys59 with } Fence.wide _ trivial rfl (by omega) w.heap.size m l.length D0 _ (by simp) (by simp) (by
      obtain ⟨es, clock, hb, Ft, hs, hD⟩ := hown
      exact ⟨es, clock, (Below.heap_alloc _ _ m hbl).trans hb, Ft, hs, hD⟩)
  have cK : ∀ mb W, CallsIn Fence.wide 5 Tryz.prog 59 #[.map mb] W fun e w' => e = .returned (.func (.func 71) #[] #[.pointer (some ⟨W.heap.size, 0, none⟩)]) ∧ w' = W.alloc (.cells #[.map mb] 74) := fun mb W => AnyZ.keys_in Tryz.keys59 Fence.wide 5 trivial rfl mb W
  have cS := AnyZ.sorted_in Tryz.sorted58 Fence.wide 5 trivial trivial trivial trivial rfl (by omega) (Tryz.sorts _) (enters_of Tryz.func70 (by kernel_rfl) rfl) 71 #[.pointer (some ⟨w.heap.size, 0, none⟩)] trivial (enters_of Tryz.func71 (by kernel_rfl) rfl) _ _ (by unfold maxLen; omega) (by omega) _ hseq
  change CallsIn _ _ Tryz.prog 58 _ _ _ at cS
  have hfK : Fence.wide.fn 59 := trivial
  have hfS : Fence.wide.fn 58 := trivial
  refine callsIn_of_wp Tryz.func33 rfl trivial ?_ rfl
  simp only [Tryz.ntmps33, List.size_toArray, List.length_cons, List.length_nil, Nat.reduceAdd, Nat.reduceSub, Array.replicate_succ, Array.replicate_zero, List.push_toArray, List.append_toArray, List.nil_append, List.cons_append]
  gi_wp2_with (first
    | (gi_at_call 59; refine (cK _ _).mono ?_; rintro e w' ⟨rfl, rfl⟩)
    | (gi_at_call 58; refine cS.mono ?_; rintro e w' ⟨v, ss, rfl, hS, hrow, hnil, hb⟩))
  go_ret
  refine ⟨⟨v, _, rfl, hfin ss hS, ?_⟩, ((Below.refl _ w).alloc (Nat.le_refl _) _).trans (hb.mono (by simp))⟩
  refine OwN.base (B := (w.alloc (.cells #[.map (some m)] 74)).heap.size) ?_ (by simp)
  unfold OwN
  rw [List.length_mergeSort]
  exact hrow

set_option maxHeartbeats 4000000 in
theorem free6_any {x : Ex} (hsz : szE x ≤ 262144) (hw : lnE x) (w : World) (A : Nat → Prop) (us : List Value) (hx : ExW w A x us) :
    Calls Tryz.prog 20 #[.agg us.toArray] w fun e w' => (∃ v o, e = .returned v ∧ IsSrt (frE x) o ∧ OwN w' w.heap.size v o) ∧ Below w.heap.size w w' := by
  have hmm := @run_makeMap Tryz.prog
  obtain ⟨u0, u1, u2, u3, u4, u5, u6, rfl⟩ := list7 hx.len
  have hb0 := below_alloc w (.cells #[u0, u1, u2, u3, u4, u5, u6] 43)
  have hE0 := Bk.new w 43 #[u0, u1, u2, u3, u4, u5, u6]
  go_enter Tryz.func20, Tryz.ntmps20
  go_upto_region 1 with fail
  obtain ⟨W, hW⟩ : ∃ W, W = w.alloc (.cells #[u0, u1, u2, u3, u4, u5, u6] 43) := ⟨_, rfl⟩
  rw [← hW] at hb0 hE0 ⊢
  clear hW
  have hWs : w.heap.size < W.heap.size := hE0.lt
  have hM1 := Sn.made W
  have hb1 := below_alloc W (.map #[] 0)
  have hsz1 : (W.alloc (.map #[] 0)).heap.size = W.heap.size + 1 := by simp
  have hb2 := below_alloc (W.alloc (.map #[] 0)) (.cells #[.map (some W.heap.size)] 74)
  have hA2 := Bk.new (W.alloc (.map #[] 0)) 74 #[.map (some W.heap.size)]
  go_upto_region 2 with fail
  have hbX := (hb0.trans (hb1.mono (by omega))).trans (hb2.mono (by omega))
  have hMX := hM1.up hb2
  have hEX := (hE0.up hb1).up hb2
  have hxX := (hx.imp (A' := fun k => k < w.heap.size) fun k _ h => h).up hbX
  obtain ⟨X, hX⟩ : ∃ X, X = (W.alloc (.map #[] 0)).alloc (.cells #[.map (some W.heap.size)] 74) := ⟨_, rfl⟩
  rw [← hX] at hbX hMX hEX hxX hA2 ⊢
  obtain ⟨m, hm⟩ : ∃ m, m = W.heap.size := ⟨_, rfl⟩
  obtain ⟨bf, hbf⟩ : ∃ bf, bf = W.heap.size + 1 := ⟨_, rfl⟩
  rw [hsz1, ← hbf, ← hm] at hA2
  rw [← hm] at hMX
  rw [← hbf]
  have hbs : w.heap.size < m ∧ m < bf := by omega
  clear hX hbf hm hb0 hb1 hb2 hsz1 hE0 hM1 hWs hx hmm
  have hm := eachFree1_any (tellsN (by omega : bf ≠ m)) hsz hw X (fun k => k < w.heap.size) [u0, u1, u2, u3, u4, u5, u6] [] hxX (fun k hk => ⟨by have := hbX.size; omega, by omega⟩) ⟨hA2, hMX⟩ (by show 0 + szE x ≤ 1099511627776; omega)
  have hfl : (frE x).length ≤ szE x := by
    have := gw_mu (seeF fun name (l : List (List UInt8)) => l ++ [name]) (μ := List.length) (fun cn op name s => by unfold seeF; split <;> simp) x [] []
    rw [List.length_nil, Nat.zero_add] at this
    exact this
  obtain ⟨d0, d1, d2, d3, d4, d5, d6⟩ := Bk.seven (show Bk X w.heap.size 43 [_, _, _, _, _, _, _] from hEX)
  go_wp2_with fail
  refine hm.mono ?_
  rintro e w3 ⟨rfl, hS3, hU3⟩
  have hS4 : Sq bf m w3 (frE x) := hS3
  have c3 : w3.cell? ⟨bf, 0, none⟩ = some (.map (some m)) := hS4.1.cell 0
  have hB3 : Below w.heap.size w w3 := ⟨hU3.os.trans hbX.os, hU3.tape.trans hbX.tape, hU3.output.trans hbX.output, Nat.le_trans hbX.size hU3.size, fun k hk => (hU3.block k (by have := hbX.size; omega) (by omega)).trans (hbX.block k hk)⟩
  have hs := sorted6_any hS4.2 (by omega)
  clear hm hS3 hU3 d0 d1 d2 d3 d4 d5 d6 hS4
  go_wp2_with fail
  refine hs.mono ?_
  rintro e w4 ⟨⟨v, o, rfl, hO, hN⟩, hB4⟩
  have HX : Hid (IsSrt (frE x) o ∧ OwN w4 w.heap.size v o ∧ Below w.heap.size w w4) := ⟨hO, hN.base hB3.size, hB3.trans (hB4.mono hB3.size)⟩
  clear hs hO hN hB4
  go_wp2_with fail
  go_ret
  exact ⟨⟨_, _, rfl, HX.out.1, HX.out.2.1⟩, HX.out.2.2⟩
end Go.Proofs.YtaneibojiamjeaaGreatDoor
/-
  Names: all names of a definition; a law's same.
-/
namespace Go.Proofs.YtaneibojiamjeaaGreatDoor
open Go.RowKit Go.Maps
set_option maxRecDepth 100000

/-- All names of a definition. -/
def nmA (g : Fn1) : List (List UInt8) := ([g.name] ++ nmsP g.pms) ++ adE g.body

set_option maxHeartbeats 8000000 in
theorem names6_any {w : World} {A : Nat → Prop} {g : Fn1} {us : List Value} (hF : FnW w A g us) (hA : ∀ k, A k → k < w.heap.size) (hln : lnF g) (hsz : szE g.body ≤ 65536) (hps : g.pms.length ≤ 65536) :
    Calls Tryz.prog 14 #[.agg us.toArray] w fun e w' => (∃ v o, e = .returned v ∧ IsSrt (nmA g) o ∧ OwN w' w.heap.size v o) ∧ Below w.heap.size w w' := by
  obtain ⟨ao, c, es, rfl, hp1, he1⟩ := hF
  obtain ⟨name, ps, ty, body, i⟩ := g
  dsimp only at hp1 he1 hsz hps
  have hnl : name.length ≤ 140737488355328 := hln.name
  obtain ⟨x0, x1, x2, x3, x4, x5, x6, rfl⟩ := list7 he1.len
  simp only [List.cons_append, List.nil_append]
  have hb0 := below_alloc w (.cells #[.string (bs name), .slice ao ps.length c, .int .i64 ty, x0, x1, x2, x3, x4, x5, x6, .int .i64 i] 45)
  have hL0 := Bk.new w 45 #[.string (bs name), .slice ao ps.length c, .int .i64 ty, x0, x1, x2, x3, x4, x5, x6, .int .i64 i]
  have hmm := @run_makeMap Tryz.prog
  obtain ⟨L, hLd⟩ : ∃ L, L = nmA ⟨name, ps, ty, body, i⟩ := ⟨_, rfl⟩
  rw [← hLd]
  have HLD : Hid (L = nmA ⟨name, ps, ty, body, i⟩) := hLd
  clear hLd
  go_enter Tryz.func14, Tryz.ntmps14
  go_upto_region 1 with fail
  obtain ⟨W, hW⟩ : ∃ W, W = w.alloc (.cells #[.string (bs name), .slice ao ps.length c, .int .i64 ty, x0, x1, x2, x3, x4, x5, x6, .int .i64 i] 45) := ⟨_, rfl⟩
  rw [← hW] at hb0 hL0 ⊢
  clear hW
  go_upto_region 2 with fail
  have hMX := Sn.made W
  have hbX := below_alloc W (.map #[] 0)
  obtain ⟨X, hX⟩ : ∃ X, X = W.alloc (.map #[] 0) := ⟨_, rfl⟩
  rw [← hX] at hMX hbX ⊢
  clear hX hmm
  have hLw : w.heap.size < W.heap.size := hL0.lt
  obtain ⟨m, hb⟩ : ∃ m, m = W.heap.size := ⟨_, rfl⟩
  rw [← hb] at hMX hLw ⊢
  have hbw := Below.thn hb0 hbX
  have hLX := hL0.up hbX
  have hpX := hp1.up hbw
  have heX := he1.up hbw
  have hmX := hMX.lt
  clear hbX hb0 hL0 hp1 he1 hb
  have c0 : X.cell? ⟨w.heap.size, 0, none⟩ = some (.string (bs name)) := hLX.cell 0
  have hb1 := below_alloc X (.cells #[.string (bs name)] 9)
  have hR1 := Bk.new X 9 #[.string (bs name)]
  have hm1 := nadd6_any (hMX.up hb1) (some ⟨X.heap.size, 0, none⟩) 1 [name] (ns_one hR1) (fun g off h => by cases h; omega) (fun s h => by simp at h; subst h; unfold maxLen; omega) (by simp only [List.length_cons, List.length_nil]; omega)
  go_wp2_with fail
  refine hm1.mono ?_
  rintro e w2 ⟨rfl, hM2, hU2⟩
  rw [List.nil_append] at hM2
  have hV2 : ButS (· = m) X w2 := (ButS.below hb1).trans hU2
  have hL2 := hV2.bk hLX (by omega)
  have c1 : w2.cell? ⟨w.heap.size, 1, none⟩ = some (.slice ao ps.length c) := hL2.cell 1
  have hA2 : ∀ k, A k → ¬ k = m := fun k h1 => by have := hA k h1; omega
  clear hm1 hU2 hR1 hb1 c0 hMX
  go_wp2_with fail
  go_loopw [15] (fun v wr => ∃ k : Nat, k ≤ ps.length ∧ v = .int .i64 k ∧ Sn wr m ([name] ++ nmsP (ps.take k)) ∧ ButS (· = m) X wr) (fun v _ => ps.length - (intOf v).toNat)
  case atStart => exact ⟨0, Nat.zero_le _, rfl, hM2, hV2⟩
  case round =>
    obtain ⟨k, hkn, rfl, hMk, hUk⟩ := hrel
    have hLk := hUk.bk hLX (by omega)
    have hwr := hUk.size
    by_cases hlt : k < ps.length
    · have hpk : PlW wr A ao ps := hpX.keep hUk.size fun k h hl => hUk.block k hl (hA2 k h)
      obtain ⟨g', rfl, hv⟩ := PlW.at hpk k hlt
      have hmem : ps.getD k pd ∈ ps := by rw [List.getD_eq_getElem?_getD, List.getElem?_eq_getElem hlt]; exact List.getElem_mem hlt
      have hln1 : (ps.getD k pd).name.length ≤ 140737488355328 := (hln.pms _ hmem).1
      have hnt := nmsP_take ps k hlt
      obtain ⟨q, hq⟩ : ∃ q, q = ps.getD k pd := ⟨_, rfl⟩
      rw [← hq] at hv hln1 hnt
      clear hq hmem
      obtain ⟨n1, t1, s1⟩ := q
      dsimp only at hln1 hnt
      have HN : Hid ([name] ++ nmsP (ps.take (k + 1)) = ([name] ++ nmsP (ps.take k)) ++ [n1]) := by rw [hnt, List.append_assoc]; exact rfl
      have hll : ([name] ++ nmsP (ps.take k)).length ≤ 1 + k := by unfold nmsP; simp; omega
      obtain ⟨l, hl⟩ : ∃ l, l = [name] ++ nmsP (ps.take k) := ⟨_, rfl⟩
      rw [← hl] at hMk HN hll
      obtain ⟨d0, d1, d2⟩ := range3 (show wr.rangeAt g' (k * 3) [.string (bs n1), .int .i64 t1, .int .i64 s1] from hv)
      have hZ := Bk.new wr 55 #[.string ⟨#[]⟩, .int .i64 0, .int .i64 0]
      clear hnt hv hl
      go_upto_region 6 with (refine wpList_storeN rfl 55 (.tmp 5) (.tmp 18) rfl wr.heap.size 0 [.string (bs n1), .int .i64 t1, .int .i64 s1] rfl rfl hZ (Nat.le_refl 3) Tryz.infoP3 (by intro v hv; simp only [List.mem_cons, List.not_mem_nil, or_false] at hv; rcases hv with rfl | rfl | rfl <;> rfl) ?_; intro w3 hV3 hO3)
      have hV3 : Bk w3 wr.heap.size 55 [.string (bs n1), .int .i64 t1, .int .i64 s1] := hV3
      have hb3 : Below wr.heap.size wr w3 := (below_alloc wr _).trans (hO3.below (Nat.le_refl _))
      have hM3 := hMk.up hb3
      have e0 : w3.cell? ⟨wr.heap.size, 0, none⟩ = some (.string (bs n1)) := hV3.cell 0
      have hb4 := below_alloc w3 (.cells #[.string (bs n1)] 9)
      have hw3 := hV3.lt
      have hM4 := hM3.up hb4
      have hm2 := nadd6_any hM4 (some ⟨w3.heap.size, 0, none⟩) 1 [n1] (ns_one (Bk.new w3 9 #[.string (bs n1)])) (fun g off h => by cases h; omega) (fun s h => by simp at h; subst h; unfold maxLen; omega) (by simp only [List.length_cons, List.length_nil]; omega)
      clear hZ hO3 d0 d1 d2 hMk hM3
      go_wp2_with fail
      refine hm2.mono ?_
      rintro e w5 ⟨rfl, hM5, hU5⟩
      rw [← HN.out] at hM5
      have hUe : ButS (· = m) X w5 := ((hUk.trans (.below hb3)).trans (.below hb4)).trans hU5
      clear hm2 e0 hM4 hU5 hb3 hb4
      go_wp2_with fail
      go_roundw
      case rel => exact ⟨k + 1, by omega, by go_num, hM5, hUe⟩
      case measure => simp [intOf]; omega
    · have hke : k = ps.length := by omega
      subst hke
      rw [List.take_length] at hMk
      have hll : ([name] ++ nmsP ps).length ≤ 65537 := by unfold nmsP; simp; omega
      obtain ⟨l, hl⟩ : ∃ l, l = [name] ++ nmsP ps := ⟨_, rfl⟩
      have HL : Hid (L = l ++ adE body) := by rw [HLD.out, hl]; exact rfl
      rw [← hl] at hMk hll
      have hek := hUk.ex heX hA2
      obtain ⟨_, _, _, f0, f1, f2, f3, f4, f5, f6, _⟩ := Bk.eleven (show Bk wr w.heap.size 45 [_, _, _, _, _, _, _, _, _, _, _] from hLk)
      have had := addOf6_any 65536 body hsz (Nat.le_refl _) hln.body wr A [x0, x1, x2, x3, x4, x5, x6] l hek hA2 hMk (by omega)
      have hal := adE_len body
      clear hl
      go_wp2_with fail
      refine had.mono ?_
      rintro e w6 ⟨rfl, hM6, hU6⟩
      rw [← HL.out] at hM6
      have hnf : L.length ≤ 1099511627776 := by rw [HL.out, List.length_append]; omega
      have hs := sorted6_any hM6 hnf
      have hUe := hUk.trans hU6
      have hB6 : Below w.heap.size w w6 := ⟨hUe.os.trans hbw.os, hUe.tape.trans hbw.tape, hUe.output.trans hbw.output, Nat.le_trans hbw.size hUe.size, fun j hj => (hUe.block j (by have := hbw.size; omega) (by omega)).trans (hbw.block j hj)⟩
      clear had f0 f1 f2 f3 f4 f5 f6 hMk hM6 hU6 hUk hUe
      go_wp2_with fail
      refine hs.mono ?_
      rintro e w7 ⟨⟨v, o, rfl, hO, hN⟩, hB7⟩
      have HX : Hid (IsSrt L o ∧ OwN w7 w.heap.size v o ∧ Below w.heap.size w w7) := ⟨hO, hN.base hB6.size, hB6.trans (hB7.mono hB6.size)⟩
      clear hs hO hN hB7
      go_wp2_with fail
      go_ret
      exact ⟨⟨_, _, rfl, HX.out.1, HX.out.2.1⟩, HX.out.2.2⟩

set_option maxHeartbeats 4000000 in
theorem same6_any {w : World} {a1 a2 : Option Addr} {c1 c2 : Nat} {xs ys : List (List UInt8)} (h1 : Ns w a1 xs) (h2 : Ns w a2 ys) (hl : xs.length ≤ 17592186044416) :
    Calls Tryz.prog 13 #[.slice a1 xs.length c1, .slice a2 ys.length c2] w fun e w' => e = .returned (.bool (decide (xs = ys))) ∧ Below w.heap.size w w' := by
  by_cases hne : xs.length = ys.length
  · have HE : Hid (xs.length = ys.length) := hne
    have hee : (ys.length : Int) = xs.length := by omega
    obtain ⟨n, hn⟩ : ∃ n, n = xs.length := ⟨_, rfl⟩
    rw [← hne, ← hn]
    have hnl : n ≤ 17592186044416 := by omega
    have HN : Hid (n = xs.length) := hn
    clear hne hee hn hl
    go_enter Tryz.func13, Tryz.ntmps13
    go_wp2_with fail
    go_loopw [5] (fun v wr => ∃ k : Nat, k ≤ n ∧ v = .int .i64 k ∧ Below w.heap.size w wr ∧ Hid (xs.take k = ys.take k)) (fun v _ => n - (intOf v).toNat)
    case atStart => exact ⟨0, Nat.zero_le _, rfl, Below.refl _ _, rfl⟩
    case round =>
      obtain ⟨k, hkn, rfl, hbk, hek⟩ := hrel
      by_cases hlt : k < n
      · have hkx : k < xs.length := by rw [← HN.out]; exact hlt
        have hky : k < ys.length := by rw [← HE.out]; exact hkx
        have hx : xs[k]? = some (xs[k]) := List.getElem?_eq_getElem hkx
        have hy : ys[k]? = some (ys[k]) := List.getElem?_eq_getElem hky
        obtain ⟨s, hs⟩ : ∃ s, s = xs[k] := ⟨_, rfl⟩
        obtain ⟨t, ht⟩ : ∃ t, t = ys[k] := ⟨_, rfl⟩
        rw [← hs] at hx
        rw [← ht] at hy
        obtain ⟨g1, o1, rfl, e1⟩ := h1 k s hx
        obtain ⟨g2, o2, rfl, e2⟩ := h2 k t hy
        have e1 := (hbk.cell (cell_lt e1)).trans e1
        have e2 := (hbk.cell (cell_lt e2)).trans e2
        have HX : Hid (xs[k]? = some s ∧ ys[k]? = some t) := ⟨hx, hy⟩
        have hd : ∀ q, Below w.heap.size w (wr.drewN q) := fun q => below_drewN hbk q
        clear hx hy hs ht hkx hky
        by_cases hst : s = t
        · subst hst
          have h3 : ((bs s).toList == (bs s).toList) = true := by simp
          have HK : Hid (xs.take (k + 1) = ys.take (k + 1)) := by
            rw [List.take_add_one, List.take_add_one, hek.out, HX.out.1, HX.out.2]
            rfl
          go_upto_region 6 with fail
          go_quiet (fail)
          go_wp2_with fail
          go_roundw
          case rel => exact ⟨k + 1, by omega, by go_num, hd _, HK⟩
          case measure => simp [intOf]; omega
        · have h3 : ((bs s).toList == (bs t).toList) = false := by rw [bs_toList, bs_toList, beq_eq_false_iff_ne]; exact hst
          have HD : Hid (decide (xs = ys) = false) := by
            refine decide_eq_false fun e => hst ?_
            have h4 := HX.out.1
            rw [e, HX.out.2] at h4
            exact (Option.some.inj h4).symm
          clear hst
          go_upto_region 6 with fail
          go_quiet (fail)
          go_wp2_with fail
          go_ret
          exact ⟨by rw [HD.out]; rfl, hd _⟩
      · have hke : k = n := by omega
        subst hke
        have HD : Hid (decide (xs = ys) = true) := by
          have e := hek.out
          rw [HN.out, List.take_length, HE.out, List.take_length] at e
          exact decide_eq_true e
        go_wp2_with fail
        go_ret
        exact ⟨by rw [HD.out]; rfl, hbk⟩
  · have HD : Hid (decide (xs = ys) = false) := decide_eq_false fun e => hne (by rw [e])
    have hne' : ((xs.length : Int) == ys.length) = false := by simp; omega
    clear hne
    go_enter Tryz.func13, Tryz.ntmps13
    go_wp2_with fail
    go_ret
    exact ⟨by rw [HD.out]; rfl, Below.refl _ _⟩
end Go.Proofs.YtaneibojiamjeaaGreatDoor
/-
  The names that Fresh finds: plainly, and Fresh.
-/
namespace Go.Proofs.YtaneibojiamjeaaGreatDoor
open Go.RowKit Go.Maps
set_option maxRecDepth 100000

/-- The k-th name: a letter and the number. -/
def tN (k : Nat) : List UInt8 := 116 :: Lib.itoa (k : Int)
theorem tN_inj {a b : Nat} (h : tN a = tN b) : a = b := by
  unfold tN at h
  have h1 : Lib.itoa (a : Int) = Lib.itoa (b : Int) := (List.cons.inj h).2
  have h2 := atoi_itoa (a : Int)
  rw [h1, atoi_itoa] at h2
  have := Option.some.inj h2
  omega
/-- Those of the first j names that aren't taken. -/
def frN (taken : List (List UInt8)) : Nat → List (List UInt8)
  | 0 => []
  | j + 1 => frN taken j ++ if tN (j + 1) ∈ taken then [] else [tN (j + 1)]
theorem frN_yes {t : List (List UInt8)} {j : Nat} (h : tN (j + 1) ∈ t) : frN t (j + 1) = frN t j := by rw [frN, if_pos h, List.append_nil]
theorem frN_no {t : List (List UInt8)} {j : Nat} (h : tN (j + 1) ∉ t) : frN t (j + 1) = frN t j ++ [tN (j + 1)] := by rw [frN, if_neg h]
theorem frN_pre (t : List (List UInt8)) (j : Nat) : ∀ d, ∃ r, frN t (j + d) = frN t j ++ r
  | 0 => ⟨[], by simp⟩
  | d + 1 => by
    obtain ⟨r, hr⟩ := frN_pre t j d
    refine ⟨r ++ (if tN (j + d + 1) ∈ t then [] else [tN (j + d + 1)]), ?_⟩
    rw [← Nat.add_assoc, frN, hr, List.append_assoc]
theorem frN_one {t : List (List UInt8)} {i j : Nat} (h : (frN t i).length = (frN t j).length) : frN t i = frN t j := by
  have key : ∀ a b, a ≤ b → (frN t a).length = (frN t b).length → frN t a = frN t b := fun a b hab e => by
    obtain ⟨d, rfl⟩ : ∃ d, b = a + d := ⟨b - a, by omega⟩
    obtain ⟨r, hr⟩ := frN_pre t a d
    rw [hr, List.length_append] at e
    have : r = [] := List.length_eq_zero_iff.1 (by omega)
    rw [hr, this, List.append_nil]
  rcases Nat.le_total i j with hij | hij
  · exact key i j hij h
  · exact (key j i hij h.symm).symm
theorem frN_mem {t : List (List UInt8)} {s : List UInt8} : ∀ {j : Nat}, s ∈ frN t j → s ∉ t ∧ ∃ i, i < j ∧ s = tN (i + 1)
  | 0, h => by simp [frN] at h
  | j + 1, h => by
    rw [frN, List.mem_append] at h
    rcases h with h | h
    · obtain ⟨h1, i, h2, h3⟩ := frN_mem h
      exact ⟨h1, i, by omega, h3⟩
    · by_cases e : tN (j + 1) ∈ t
      · rw [if_pos e] at h; cases h
      · rw [if_neg e, List.mem_singleton] at h
        subst h
        exact ⟨e, j, by omega, rfl⟩
theorem nodup_le : ∀ (s t : List (List UInt8)), s.Nodup → (∀ x ∈ s, x ∈ t) → s.length ≤ t.length
  | [], _, _, _ => Nat.zero_le _
  | x :: s, t, hn, hs => by
    have h0 := List.nodup_cons.1 hn
    have h1 := nodup_le s (t.erase x) h0.2 fun y hy => (List.mem_erase_of_ne (fun e => by subst e; exact h0.1 hy)).2 (hs y (List.mem_cons_of_mem _ hy))
    have hx := hs x List.mem_cons_self
    rw [List.length_erase_of_mem hx] at h1
    have := List.length_pos_of_mem hx
    simp only [List.length_cons]
    omega
/-- So many names must be looked at, at most. -/
theorem frN_len (t : List (List UInt8)) (j : Nat) : j ≤ (frN t j).length + t.length := by
  have key : ∀ j, ∃ s : List (List UInt8), s.Nodup ∧ (∀ x ∈ s, x ∈ t ∧ ∃ i, i < j ∧ x = tN (i + 1)) ∧ j = (frN t j).length + s.length := by
    intro j
    induction j with
    | zero => exact ⟨[], List.nodup_nil, fun x h => (by cases h), rfl⟩
    | succ j ih =>
      obtain ⟨s, h1, h2, h3⟩ := ih
      by_cases e : tN (j + 1) ∈ t
      · refine ⟨tN (j + 1) :: s, List.nodup_cons.2 ⟨fun h => ?_, h1⟩, fun x hx => ?_, by rw [frN_yes e, List.length_cons]; omega⟩
        · obtain ⟨_, i, hi, hx⟩ := h2 _ h
          have := tN_inj hx
          omega
        · rcases List.mem_cons.1 hx with rfl | hx
          · exact ⟨e, j, by omega, rfl⟩
          · obtain ⟨k1, i, k2, k3⟩ := h2 x hx
            exact ⟨k1, i, by omega, k3⟩
      · exact ⟨s, h1, fun x hx => by obtain ⟨k1, i, k2, k3⟩ := h2 x hx; exact ⟨k1, i, by omega, k3⟩, by rw [frN_no e, List.length_append, List.length_singleton]; omega⟩
  obtain ⟨s, h1, h2, h3⟩ := key j
  have := nodup_le s t h1 fun x hx => (h2 x hx).1
  omega

theorem itoa_any (k : Nat) (w : World) (ht : Tab w) (h : k ≤ 4611686018427387904) :
    Calls Tryz.prog 40 #[.int .i64 k] w fun e w' => e = .returned (.string (bs (Lib.itoa (k : Int)))) ∧ Below w.heap.size w w' := by
  refine (Tryz.strconv_Itoa k (by omega) (by omega) w ht).mono ?_
  rintro e w' ⟨rfl, q, os, rfl⟩
  exact ⟨rfl, Lib.below_grow _ _ (Nat.le_refl _) q os⟩
theorem bs_t (l : List UInt8) : ((⟨#[116]⟩ : ByteArray) ++ bs l) = bs (116 :: l) := by
  rw [show (⟨#[116]⟩ : ByteArray) = bs [116] from rfl, bs_app]
  rfl

theorem zeroU (w : World) : (zeroValue 102).run Tryz.prog w = .ok (.agg #[]) w := by kernel_rfl
set_option maxHeartbeats 4000000 in
theorem nhas6_any {w : World} {m : Nat} {l : List (List UInt8)} (hM : Sn w m l) (s : List UInt8) (hs : s.length ≤ maxLen) :
    Calls Tryz.prog 41 #[.map (some m), .string (bs s)] w fun e w' => e = .returned (.bool (decide (s ∈ l))) ∧ Below w.heap.size w w' := by
  have hr : ∀ z, (if s ∈ l then some (Value.agg #[]) else none).getD z = if s ∈ l then .agg #[] else z := fun z => by split <;> rfl
  have hgd : (if s ∈ l then some (Value.agg #[]) else none).getD (.agg #[]) = .agg #[] := by split <;> rfl
  have hsm : (if s ∈ l then some (Value.agg #[]) else none).isSome = decide (s ∈ l) := by split <;> rename_i h <;> simp [h]
  have HM : Hid (Sn w m l) := hM
  obtain ⟨b, hbd⟩ : ∃ b, b = decide (s ∈ l) := ⟨_, rfl⟩
  rw [← hbd] at hsm ⊢
  have hb0 := below_alloc w (.cells #[] 102)
  clear hr hM hbd
  go_enter Tryz.func41, Tryz.ntmps41
  go_wp2_with (at_lookup; refine wpList_look_ok rfl _ _ rfl Tryz.underlying9 Tryz.undNm (zeroU _) HM.out hs rfl rfl ?_; rw [hgd, hsm])
  go_ret
  exact ⟨rfl, hb0⟩
end Go.Proofs.YtaneibojiamjeaaGreatDoor
/-
  Fresh.
-/
namespace Go.Proofs.YtaneibojiamjeaaGreatDoor
open Go.RowKit Go.Maps
set_option maxRecDepth 100000

set_option maxHeartbeats 8000000 in
theorem fresh6_any {w : World} {ao : Option Addr} {cap : Nat} (xs : List (List UInt8)) (hN : Ns w ao xs) (hlow : ∀ g off, ao = some ⟨g, off, none⟩ → g < w.heap.size) (hs : ∀ s ∈ xs, s.length ≤ maxLen) (hl : xs.length ≤ 8796093022208) (ht : Tab w) (n : Nat) (hn : n ≤ 4096) :
    Calls Tryz.prog 17 #[.slice ao xs.length cap, .int .i64 n] w fun e w' => (∃ v j, e = .returned (.tuple #[v, .int .i64 0]) ∧ (frN xs j).length = n ∧ OwN w' w.heap.size v (frN xs j)) ∧ Below w.heap.size w w' := by
  have hmm := @run_makeMap Tryz.prog
  obtain ⟨i0, hi, hz⟩ := Option.map_eq_some_iff.1 Tryz.infoSt
  simp only [Prod.mk.injEq] at hz
  have h0 : ¬ (n : Int) < 0 := by omega
  have h1 : ¬ (4096 : Int) < n := by omega
  have hb0 := below_alloc w (.map #[] 0)
  have hM0 := Sn.made w
  have hNX := hN.up hb0
  have hsz0 : (w.alloc (.map #[] 0)).heap.size = w.heap.size + 1 := by simp
  go_enter Tryz.func17, Tryz.ntmps17
  go_upto_region 4 with fail
  obtain ⟨X, hX⟩ : ∃ X, X = w.alloc (.map #[] 0) := ⟨_, rfl⟩
  rw [← hX] at hb0 hM0 hNX hsz0 ⊢
  clear hX hmm
  obtain ⟨m, hm⟩ : ∃ m, m = w.heap.size := ⟨_, rfl⟩
  rw [← hm] at hM0 ⊢
  have hwm : w.heap.size ≤ m ∧ m ≤ w.heap.size ∧ w.heap.size < X.heap.size := by omega
  clear hm hsz0
  have ha := nadd6_any hM0 ao cap xs hNX (fun g off h => by have := hlow g off h; omega) hs (by simp only [List.length_nil]; omega)
  have hlow' : Hid (∀ g off, ao = some ⟨g, off, none⟩ → g < w.heap.size) := hlow
  have hs' : Hid (∀ s ∈ xs, s.length ≤ maxLen) := hs
  clear hlow hs
  go_wp2_with fail
  refine ha.mono ?_
  rintro e w2 ⟨rfl, hM2, hU2⟩
  rw [List.nil_append] at hM2
  have hBw : Below w.heap.size w w2 := ⟨hU2.os.trans hb0.os, hU2.tape.trans hb0.tape, hU2.output.trans hb0.output, Nat.le_trans hb0.size hU2.size, fun k hk => (hU2.block k (by omega) (by omega)).trans (hb0.block k hk)⟩
  have ht2 := tab_keep ht hBw
  have hm2 := hM2.lt
  clear ha hM0 hNX hb0 hU2
  obtain ⟨w5, hr5, ho5, hg5⟩ := run_make_own (P := Tryz.prog) w2 w2.heap.size 35 9 i0 (.string ⟨#[]⟩) 1 Tryz.underSt hi hz.1 hz.2.1 .i64 .i64 n (by rw [hz.2.2]; omega) (by unfold maxLen; omega) (Nat.le_refl _)
  have hb5 : Below w2.heap.size w2 w5 := (Below.refl _ _).grown hg5 (Nat.le_refl _) (fun k h => by cases h)
  have ho5 : OwN w5 w2.heap.size (.slice (some ⟨w2.heap.size, 0, none⟩) 0 n) [] := ho5
  have HZ : Hid (xs.length ≤ 8796093022208 ∧ n ≤ 4096) := ⟨hl, hn⟩
  clear hg5
  go_upto_region 7 with fail
  clear hr5
  have HB : Hid (Below w.heap.size w w2 ∧ w.heap.size ≤ w2.heap.size) := ⟨hBw, hBw.size⟩
  go_loopw [7, 8] (fun u v wr => ∃ j K : Nat, K = j + 1 ∧ v = .int .i64 (K : Int) ∧ (frN xs j).length ≤ n ∧ OwN wr w2.heap.size u (frN xs j) ∧ Below w2.heap.size w2 wr) (fun _ v _ => (n + xs.length + 4) - (intOf v).toNat)
  case atStart => exact ⟨0, 1, rfl, rfl, Nat.zero_le _, ho5, hb5⟩
  case round =>
    obtain ⟨j, K, hK, rfl, hjn, hOj, hBj⟩ := hrel
    obtain ⟨ar, cr, rfl, hNr, hcr, har⟩ := hOj.names
    have hjl := frN_len xs j
    have hKj : K ≤ j + 1 ∧ j + 1 ≤ K := by omega
    have HK : Hid (K = j + 1) := hK
    have HC : Hid (ar = none → cr = 0) := hcr
    have HA : Hid (∀ g off, ar = some ⟨g, off, none⟩ → w2.heap.size ≤ g) := har
    have hBs := hBj.size
    clear hK hcr har
    obtain ⟨F, hF⟩ : ∃ F, F = frN xs j := ⟨_, rfl⟩
    have HF : Hid (F = frN xs j) := hF
    rw [← hF] at hjn hOj hNr hjl ⊢
    clear hF
    by_cases hlt : F.length < n
    · have hi := itoa_any K wr (tab_keep ht2 hBj) (by have := HZ.out; omega)
      have hsz : (bs (Lib.itoa (K : Int))).size ≤ 21 := by rw [bs_size]; exact Lib.itoa_length_le _ (by omega) (by have := HZ.out; omega)
      have hlt' : (F.length : Int) < n := by omega
      go_wp2_with fail
      refine hi.mono ?_
      rintro e w3 ⟨rfl, hb3⟩
      have hM3 := (hM2.up hBj).up hb3
      have hh := nhas6_any hM3 (tN K) (by unfold tN; rw [List.length_cons]; rw [bs_size] at hsz; unfold maxLen; omega)
      clear hi
      go_wp2_with fail
      rw [bs_t]
      refine hh.mono ?_
      rintro e w4 ⟨rfl, hb4⟩
      have hb34 := Below.thn hb3 hb4
      have hO4 := hOj.upp hb34
      have hN4 := hNr.up hb34
      have hB4 := hBj.trans (hb34.mono hBs)
      have hw4 := hB4.size
      clear hh hM3 hOj hNr hb3 hb4
      by_cases hin : tN K ∈ xs
      · rw [decide_eq_true hin]
        have HE : Hid (frN xs K = F) := by rw [HF.out]; have := HK.out; subst this; exact frN_yes hin
        clear hin hlt hlt'
        go_wp2_with fail
        go_roundw
        case rel => exact ⟨K, K + 1, rfl, by go_num, by rw [HE.out]; exact hjn, by rw [HE.out]; exact hO4, hB4⟩
        case measure => have := HZ.out; simp [intOf]; omega
      · rw [decide_eq_false hin]
        have HE : Hid (frN xs K = F ++ [tN K]) := by rw [HF.out]; have := HK.out; subst this; exact frN_no hin
        have hb5 := below_alloc w4 (.cells #[.string (bs (tN K))] 9)
        obtain ⟨v6, w6, R6, hO6, hb6⟩ := own_names (w4.alloc (.cells #[.string (bs (tN K))] 9)) w2.heap.size _ F (hO4.upp hb5) (by have := hb5.size; omega) (some ⟨w4.heap.size, 0, none⟩) 1 [tN K] (ns_one (Bk.new w4 9 #[.string (bs (tN K))])) (fun e => by cases e) (fun e => by cases e) (by have := HZ.out; simp only [List.length_cons, List.length_nil]; omega)
        have hB6 := (hB4.trans (hb5.mono hw4)).trans hb6
        have hF1 : (F ++ [tN K]).length ≤ n := by rw [List.length_append, List.length_singleton]; omega
        have HX : Hid ((F ++ [tN K]).length ≤ n ∧ OwN w6 w2.heap.size v6 (F ++ [tN K]) ∧ Below w2.heap.size w2 w6) := ⟨hF1, hO6, hB6⟩
        clear hin hF1 hO6 hB6 hb5 hb6 hO4 hN4 hB4 hb34
        go_wp2_with (at_builtin; refine wpList_append_run rfl (.tmp 35) (.tmp 37) 35 rfl rfl _ _ rfl rfl _ _ (show _ = _ from R6) ?_)
        go_roundw
        case rel => exact ⟨K, K + 1, rfl, by go_num, by rw [HE.out]; exact HX.out.1, by rw [HE.out]; exact HX.out.2.1, HX.out.2.2⟩
        case measure => have := HZ.out; simp [intOf]; omega
    · have hlt' : ¬ (F.length : Int) < n := by omega
      have HX : Hid ((frN xs j).length = n ∧ OwN wr w.heap.size (.slice ar F.length cr) (frN xs j) ∧ Below w.heap.size w wr) := by
        rw [← HF.out]
        exact ⟨by omega, hOj.base HB.out.2, HB.out.1.trans (hBj.mono HB.out.2)⟩
      clear hOj hNr hBj
      go_wp2_with fail
      go_ret2
      exact ⟨⟨_, rfl, j, HX.out.1, HX.out.2.1⟩, HX.out.2.2⟩
end Go.Proofs.YtaneibojiamjeaaGreatDoor
