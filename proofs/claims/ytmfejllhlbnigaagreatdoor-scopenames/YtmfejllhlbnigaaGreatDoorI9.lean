/-
  The walks of named and of ScopeNames.
-/
import Derived.Test.YtmfejllhlbnigaaGreatDoorUkf
import Derived.Test.YtmfejllhlbnigaaGreatDoorUkh
import Derived.Test.YtmfejllhlbnigaaGreatDoorUke
import Derived.Test.YtmfejllhlbnigaaGreatDoorIa
namespace Go.Proofs.YtmfejllhlbnigaaGreatDoor
open Go.RowKit Go.Maps
set_option maxRecDepth 100000

theorem ExW.args {w : World} {A : Nat → Prop} {op : Int} {name tail : List UInt8} {ty p q : Int} {xs : List Ex} {i : Nat} {us : List Value} (h : ExW w A (.mk op name tail ty p q xs i) us) : ∃ ao c, us[5]? = some (.slice ao xs.length c) ∧ ElW w A ao xs := by
  cases h with
  | mk hl => exact ⟨_, _, rfl, hl⟩
theorem srt_ex (l : List (List UInt8)) : ∃ o, IsSrt l o := by
  obtain ⟨s, h1, h2, _⟩ := exists_nodup l
  exact ⟨_, isSrt_merge h1 h2⟩

set_option maxHeartbeats 8000000 in
theorem named_any (nm : List UInt8) : ∀ (n : Nat) (x : Ex), szE x ≤ n → n ≤ 65536 → lnE x → ∀ (w : World) (A : Nat → Prop) (us : List Value) (left : Nat), left ≤ 300 → ExW w A x us → (∀ k, A k → k < w.heap.size) →
    Calls Tryz.prog 16 #[.agg us.toArray, .string (bs nm), .int .i64 left] w fun e w' => e = .returned (.bool true) ∧ Below w.heap.size w w' := by
  intro n
  induction n with
  | zero => intro x h; have := szE_pos x; omega
  | succ n ih =>
    intro x ht hn hln w A us left hlf hx hA
    have IH : Hid _ := ih
    have HA : Hid (∀ k, A k → k < w.heap.size) := hA
    have hsz : szE x ≤ 65536 := by omega
    clear ih hA
    obtain ⟨u0, u1, u2, u3, u4, u5, u6, rfl⟩ := list7 hx.len
    have hb0 := below_alloc w (.cells #[u0, u1, u2, u3, u4, u5, u6] 43)
    have hL := Bk.new w 43 #[u0, u1, u2, u3, u4, u5, u6]
    have HX0 : Hid (ExW w A x [u0, u1, u2, u3, u4, u5, u6]) := hx
    obtain ⟨O, hO⟩ := srt_ex (fsE x)
    have HO : Hid (IsSrt (fsE x) O) := hO
    have hOl : O.length ≤ 65536 := by have := srt_len hO; have := fsY_len (snE [] x); have := snE_len [] x; unfold fsE at *; omega
    clear hO hx
    go_enter Tryz.func16, Tryz.ntmps16
    go_upto_region 1 with fail
    obtain ⟨W, hW⟩ : ∃ W, W = w.alloc (.cells #[u0, u1, u2, u3, u4, u5, u6] 43) := ⟨_, rfl⟩
    rw [← hW] at hb0 hL ⊢
    clear hW
    have hxW : ∀ W', Below W.heap.size W W' → ExW W' A x [u0, u1, u2, u3, u4, u5, u6] := fun W' h => (HX0.out.up hb0).up h
    have hAW : ∀ W', Below W.heap.size W W' → ∀ k, A k → k < W'.heap.size := fun W' h k hk => by have := HA.out k hk; have := hb0.size; have := h.size; omega
    have hLw := hL.lt
    refine wp_region_any (by kernel_rfl) ?_
    refine named1 (X0 := W) (b := w.heap.size) (x0 := u0) (x1 := u1) (x2 := u2) (x3 := u3) (x4 := u4) (x5 := u5) (x6 := u6) (nm := nm) (O := O) (U := ((fsE x).count nm : Nat)) (S := (szE x : Nat)) (K := (nE x : Nat))
      (fun W' h => Bk.seven (show Bk W' w.heap.size 43 [_, _, _, _, _, _, _] from hL.up h))
      (fun W' h => (free6_any hsz hln W' A _ (hxW W' h)).mono fun e w' ⟨⟨v, o, he, hI, hN⟩, hb⟩ => by
        rw [frE_fsE] at hI
        obtain rfl := hI.one HO.out (fun _ => Iff.rfl)
        obtain ⟨ao, c, hv, hn, _, _⟩ := hN.names
        exact ⟨⟨v, he, ao, c, hv, hn⟩, hb⟩)
      (fun W' h => (rfree_any hsz W' A _ (hxW W' h) (hAW W' h)).mono fun e w' ⟨⟨v, o, he, hI, hN⟩, hb⟩ => by
        obtain rfl := hI.one HO.out (fun _ => Iff.rfl)
        obtain ⟨ao, c, hv, hn, _, _⟩ := hN.names
        exact ⟨⟨v, he, ao, c, hv, hn⟩, hb⟩)
      (fun W' a1 c1 a2 c2 n1 n2 => by have := same6_any (c1 := c1) (c2 := c2) n1 n2 (by omega); rw [decide_eq_true rfl] at this; exact this)
      (fun W' h => by have := uses6_any hsz hln W' A _ (hxW W' h) nm; rw [usE_fsE] at this; exact this)
      (fun W' h => ruses_any hsz W' A _ (hxW W' h) (hAW W' h) nm)
      (fun W' h => size6_any _ x (Nat.le_refl _) (by omega) W' A _ (hxW W' h)) (fun W' h => rsize6_any _ x (Nat.le_refl _) (by omega) W' A _ (hxW W' h))
      (fun W' h => nest6_any _ x (Nat.le_refl _) (by omega) W' A _ (hxW W' h)) (fun W' h => rnest6_any _ x (Nat.le_refl _) (by omega) W' A _ (hxW W' h))
      (by show 59 ≤ 59; decide) rfl rfl (Below.refl _ _).drew ?_
    intro a W1 hOf hW1 hv
    obtain ⟨y8, y9, y10, y11, y12, y13, y14, y15, y16, y17, y18, y19, y20, y21, y22, y23, y24, y25, y26, y27, y28, y29, y30, y31, y32, y33, y34, y35, y36, ⟨_, _, _, _, _, _, _, _, _, _, _, _, _, _, _, _, _, _, _, _, _, _, _, _, _, _, _, _, e36⟩, rfl⟩ := offN hOf
    have f36 : y36 = .bool false := e36.symm.trans (hv 28 (by decide) rfl)
    subst f36
    clear hOf hv e36 hxW hAW HO hOl O
    obtain ⟨op, name, tail, ty, p, q, xs, i⟩ := x
    obtain ⟨ao, c, h5, hl⟩ := HX0.out.args
    obtain rfl : u5 = .slice ao xs.length c := Option.some.inj h5
    rw [szE_mk] at ht
    have hlen := length_szL xs
    unfold lnE at hln
    rw [wfE_mk] at hln
    have HW : Hid (wfL (fun s => s.length ≤ 140737488355328) (fun _ _ => True) xs) := hln.2
    have hl0 := hl.up hb0
    have hBw : Below w.heap.size w W1 := hb0.trans (hW1.mono (by omega))
    have hL1 := hL.up hW1
    have hl1 := hl0.up hW1
    have hw1 := hBw.size
    clear h5 hl hln HX0 hL hl0 hW1 hb0
    go_wp2_with fail
    go_loopw [2, 7] (fun u v wr => ∃ k lf : Nat, k ≤ xs.length ∧ lf ≤ 300 ∧ u = .int .i64 lf ∧ v = .int .i64 k ∧ Below W1.heap.size W1 wr) (fun _ v _ => xs.length - (intOf v).toNat)
    case atStart => exact ⟨0, left, Nat.zero_le _, hlf, rfl, rfl, Below.refl _ _⟩
    case round =>
      obtain ⟨k, lf, hkn, hlk, rfl, rfl, hBk⟩ := hrel
      have hLk := hL1.up hBk
      have hwr := hBk.size
      have c5 : wr.cell? ⟨w.heap.size, 5, none⟩ = some (.slice ao xs.length c) := hLk.cell 5
      have fin : Hid (Below w.heap.size w wr) := hBw.trans (hBk.mono hw1)
      by_cases hlt : k < xs.length
      · by_cases hl0 : 0 < lf
        · have hll := hl1.up hBk
          have hsz1 := szE_at xs k hlt
          have hwk : lnE (xs.getD k ed) := wfL_at xs HW.out k hlt
          obtain ⟨g, off, rfl⟩ := hll.place (by intro e; simp [e] at hlt)
          obtain ⟨vs, hv, hxv⟩ := hll.at k hlt
          obtain ⟨v0, v1, v2, v3, v4, v5, v6, rfl⟩ := list7 hxv.len
          obtain ⟨d0, d1, d2, d3, d4, d5, d6⟩ := range7 hv
          have hrec := IH.out (xs.getD k ed) (by omega) (by omega) hwk wr A [v0, v1, v2, v3, v4, v5, v6] (lf / 2) (by omega) hxv (fun j h => by have := HA.out j h; omega)
          have h2 : ¬ (lf : Int) < 0 := by omega
          have hl0' : (0 : Int) < (lf : Int) := by omega
          clear hv hll hxv
          go_wp2_with fail
          have e1 : ((lf : Int) / 2) = ((lf / 2 : Nat) : Int) := by omega
          rw [e1]
          clear e1
          refine hrec.mono ?_
          rintro e w4 ⟨rfl, hb4⟩
          have hBe := hBk.trans (hb4.mono hwr)
          clear hrec d0 d1 d2 d3 d4 d5 d6 c5 fin hb4
          go_wp2_with fail
          go_roundw
          case rel => exact ⟨k + 1, lf / 2, by omega, by omega, rfl, by go_num, hBe⟩
          case measure => simp [intOf]; omega
        · have h2 : lf = 0 := by omega
          subst h2
          clear hl0
          go_wp2_with fail
          go_ret
          exact ⟨rfl, fin.out⟩
      · have hlt' : ¬ (k : Int) < (xs.length : Int) := by omega
        clear hlt
        go_wp2_with fail
        go_ret
        exact ⟨rfl, fin.out⟩

/-- Names of a program that was read are not empty. -/
theorem prgNe {l : List UInt8} {ms : List Mk} {f : Nat} {gs : List Fn1} {j : Nat} (hc : cut rdN l 0 = .ok ms) (hp : progL (mf ms) LW5 f [] 0 = .ok gs j) : ∀ g ∈ gs, WfF (fun s => s ≠ []) (fun _ _ => True) g :=
  al_prog (mf ms) LW5 (fun k h => ((mf_mkS rd_back hc k).nm h).ne) (fun _ _ => trivial) f [] 0 (by simp) gs j hp

set_option maxHeartbeats 8000000 in
theorem scopeNames_any (ao : Option Addr) (cap : Nat) (l : List UInt8) (hcap : l.length ≤ cap) (S : ByteArray) (w : World) (hT : Bd w ao l) (ht : Tab w) :
    Calls Tryz.prog 4 #[.slice ao l.length cap, .string S] w fun e w' => e = .returned (.bool true) ∧ Below w.heap.size w w' := by
  obtain ⟨nm, rfl⟩ : ∃ nm, S = bs nm := ⟨S.data.toList, by simp [bs]⟩
  obtain ⟨F, hF⟩ : ∃ F, F = 12 * (l.length + 1) + 9 := ⟨_, rfl⟩
  have hfu : ∀ ms, cut rdN l 0 = .ok ms → progL (mf ms) LW5 F [] 0 ≠ .out := fuel_ok l LW5 F (by omega)
  have HF : Hid (F = 12 * (l.length + 1) + 9) := hF
  clear hF
  go_enter Tryz.func4, Tryz.ntmps4
  go_wp2_with fail
  refine (awake6_any w ht).mono ?_
  rintro e w1 ⟨rfl, hb1⟩
  have m2 := read5_any ao cap l hcap w1 (hT.up hb1) F hfu
  go_wp2_with fail
  refine m2.mono ?_
  rintro e w2 ⟨hb2, hrd⟩
  have hB2 := Below.thn hb1 hb2
  clear m2 hb1 hb2 hT ht hfu hcap
  rcases rd_fork hrd with ⟨ms, gs, j, a2, c2, hl, hc, hp, rfl, hfl⟩ | rfl
  · have hok : PrgOk gs := prgOk hl (by rw [HF.out]; exact Nat.le_refl _) hc hp
    have HLN : Hid (∀ g ∈ gs, lnF g) := prgLn hl hc hp
    have HNE : Hid (∀ g ∈ gs, WfF (fun s => s ≠ []) (fun _ _ => True) g) := prgNe hc hp
    have hb3 := below_alloc w2 (.cells #[.slice a2 gs.length c2] 26)
    have hP3 := Bk.new w2 26 #[.slice a2 gs.length c2]
    have HB3 : Hid (Below w.heap.size w _) := Below.thn hB2 hb3
    have hf3 := hfl.up hb3
    have HOK : Hid (PrgOk gs) := hok
    have hgl : gs.length ≤ 32769 := hok.num
    go_upto_region 4 with fail
    generalize hW3 : w2.alloc (.cells #[.slice a2 gs.length c2] 26) = W3 at *
    clear hW3 hfl hb3 hok hp hc hrd hB2
    by_cases hlen : (6000 : Int) < (l.length : Int)
    · go_wp2_with fail
      go_ret
      exact ⟨rfl, HB3.out⟩
    · go_wp2_with fail
      go_loopw [7] (fun v wr => ∃ k : Nat, k ≤ gs.length ∧ v = .int .i64 k ∧ Below W3.heap.size W3 wr) (fun v _ => gs.length - (intOf v).toNat)
      case atStart => exact ⟨0, Nat.zero_le _, rfl, Below.refl _ _⟩
      case round =>
        obtain ⟨k, hkn, rfl, hBk⟩ := hrel
        have hwr := hBk.size
        have hPk := hP3.up hBk
        have p0 : wr.cell? ⟨w2.heap.size, 0, none⟩ = some (.slice a2 gs.length c2) := hPk.cell 0
        by_cases hlt : k < gs.length
        · have hFk := hf3.up hBk
          have hmem : gs.getD k fd ∈ gs := by rw [List.getD_eq_getElem?_getD, List.getElem?_eq_getElem hlt]; exact List.getElem_mem hlt
          obtain ⟨G, vs, rfl, _, hv, hxv⟩ := hFk.at k hlt
          have hsz : szE (gs.getD k fd).body ≤ 65536 := by have := HOK.out.sz _ hmem; omega
          have hps : (gs.getD k fd).pms.length ≤ 65536 := by have := HOK.out.pms _ hmem; omega
          have hln := HLN.out _ hmem
          have hne := HNE.out _ hmem
          obtain ⟨g, hg⟩ : ∃ g, g = gs.getD k fd := ⟨_, rfl⟩
          rw [← hg] at hxv hsz hps hln hne
          clear hg hmem hFk
          obtain ⟨ap, cp, es, hvs, hp1, hx1⟩ := id hxv
          obtain ⟨x0, x1, x2, x3, x4, x5, x6, rfl⟩ := list7 hx1.len
          simp only [List.cons_append, List.nil_append] at hvs
          subst hvs
          obtain ⟨O, hO⟩ := srt_ex (rnF g)
          have HO : Hid (IsSrt (rnF g) O) := hO
          have hOl : O.length ≤ 1000000 := by
            have h1 := srt_len hO
            have h2 := wnE_len g.body
            unfold rnF at h1
            rw [List.length_append, List.length_append] at h1
            unfold nmsP at h1
            rw [List.length_map, List.length_singleton] at h1
            omega
          have HA : Hid (∀ W, Below wr.heap.size wr W → ∃ A, (∀ k, A k → k < W.heap.size) ∧ FnW W A g [.string (bs g.name), .slice ap g.pms.length cp, .int .i64 g.ty, x0, x1, x2, x3, x4, x5, x6, .int .i64 g.pos]) := fun W hW => ⟨_, fun _ h => h.2, (FnW.up hxv hW).imp (A' := fun b => (W3.heap.size ≤ b ∨ True) ∧ b < W.heap.size) fun b _ hl => ⟨.inr trivial, hl⟩⟩
          have hcell := fun j v (hj : ([.string (bs g.name), .slice ap g.pms.length cp, .int .i64 g.ty, x0, x1, x2, x3, x4, x5, x6, .int .i64 g.pos] : List Value)[j]? = some v) => hv j v hj
          clear hv hO hp1
          go_upto_region 9 with fail
          refine wp_region_any (by kernel_rfl) ?_
          refine names9 (X0 := wr) (b := w2.heap.size) (g := G) (n := gs.length) (c := c2) (k := k) (nm := nm) (O := O) (x0 := x0) (x1 := x1) (x2 := x2) (x3 := x3) (x4 := x4) (x5 := x5) (x6 := x6) (y0 := .string (bs g.name)) (y1 := .slice ap g.pms.length cp) (y2 := .int .i64 g.ty) (y10 := .int .i64 g.pos) hlt
            (fun W hW => (hPk.up hW).cell 0)
            (fun W hW => by
              have q : ∀ j v, ([.string (bs g.name), .slice ap g.pms.length cp, .int .i64 g.ty, x0, x1, x2, x3, x4, x5, x6, .int .i64 g.pos] : List Value)[j]? = some v → W.cell? ⟨G, k * 11 + j, none⟩ = some v := fun j v hj => (hW.cell (cell_lt (hcell j v hj))).trans (hcell j v hj)
              exact ⟨q 0 _ rfl, q 1 _ rfl, q 2 _ rfl, q 3 _ rfl, q 4 _ rfl, q 5 _ rfl, q 6 _ rfl, q 7 _ rfl, q 8 _ rfl, q 9 _ rfl, q 10 _ rfl⟩)
            (fun W hW => by
              obtain ⟨A, hA, hf⟩ := HA.out W hW
              refine (names6_any hf hA hln hsz hps).mono fun e w' ⟨⟨v, o, he, hI, hN⟩, hb⟩ => ?_
              rw [nmA_rnF hne] at hI
              obtain rfl := hI.one HO.out (fun _ => Iff.rfl)
              obtain ⟨ao, c, hv, hn, _, _⟩ := hN.names
              exact ⟨⟨v, he, ao, c, hv, hn⟩, hb⟩)
            (fun W hW => by
              obtain ⟨A, hA, hf⟩ := HA.out W hW
              refine (rnames_any hf hA hsz hps).mono fun e w' ⟨⟨v, o, he, hI, hN⟩, hb⟩ => ?_
              obtain rfl := hI.one HO.out (fun _ => Iff.rfl)
              obtain ⟨ao, c, hv, hn, _, _⟩ := hN.names
              exact ⟨⟨v, he, ao, c, hv, hn⟩, hb⟩)
            (fun W a1 c1 a2 c2 n1 n2 => by have := same6_any (c1 := c1) (c2 := c2) n1 n2 (by omega); rw [decide_eq_true rfl] at this; exact this)
            (fun W hW => by
              obtain ⟨A, hA, hf⟩ := HA.out W hW
              exact named_any nm 65536 g.body hsz (Nat.le_refl _) hln.body W _ _ 300 (Nat.le_refl _) ((hx1.up hW).imp (A' := fun b => b < W.heap.size) fun b _ hl => hl) (fun _ h => h))
            (by show 54 ≤ 54; decide) rfl rfl rfl (Below.refl _ _).drew ?_
          intro a W1 hOf hW1 hvv
          obtain ⟨y29, y30, y31, y32, y33, y34, y35, y36, y37, y38, y39, y40, y41, y42, y43, y44, y45, y46, y47, y48, y49, y50, y51, y52, y53, ⟨_, _, _, _, _, _, _, _, _, _, _, _, _, _, _, _, _, _, _, _, _, _, _, _, e53⟩, rfl⟩ := offO hOf
          have f53 : y53 = .bool false := e53.symm.trans (hvv 24 (by decide) rfl)
          subst f53
          have hBe := hBk.trans (hW1.mono hwr)
          clear hOf hvv e53 hcell HO hOl hPk p0 hW1 hxv hx1
          go_wp2_with fail
          go_roundw
          case rel => exact ⟨k + 1, by omega, by go_num, hBe⟩
          case measure => simp [intOf]; omega
        · have hke : k = gs.length := by omega
          subst hke
          have HX : Hid (Below w.heap.size w wr) := Below.thn HB3.out hBk
          go_wp2_with fail
          go_ret
          exact ⟨rfl, HX.out⟩
  · have hb3 := below_alloc w2 (.cells #[.slice none 0 0] 26)
    have HB3 : Hid (Below w.heap.size w _) := Below.thn hB2 hb3
    clear hB2
    go_wp2_with fail
    go_ret
    exact ⟨rfl, HB3.out⟩
end Go.Proofs.YtmfejllhlbnigaaGreatDoor
