/-
  The walks of parseList and Parse.
-/
import Derived.Test.YtbgggbkmnfppoaaGreatDoorVo
namespace Go.Proofs.YtbgggbkmnfppoaaGreatDoor
open Go.RowKit
set_option maxRecDepth 100000

/-- The reader of numbers. -/
def rdG (l : List UInt8) : Option Zn := if rdOk l then some (rdX l, rdY l) else none
theorem rdG_rdr : Rdr rdG := by
  refine ⟨fun z hz => ?_, fun l z h => ?_⟩
  · obtain ⟨h1, h2, h3⟩ := rd_txt z.1 z.2 hz.1 hz.2
    unfold rdG txZ
    rw [h3, h1, h2]; rfl
  · unfold rdG at h
    split at h
    · rename_i hk
      simp only [Option.some.injEq] at h
      unfold rdOk at hk
      obtain ⟨_, b1, b2, ht⟩ := of_decide_eq_true hk
      rw [← h]
      exact ⟨⟨b1, b2⟩, ht⟩
    · cases h

theorem gparse_any (l : List UInt8) (hl : l.length ≤ 281474976710656) (w : World) (hE : Env w) :
    Calls Tryz.prog 31 #[.string (bs l)] w fun e w' => e = .returned (.tuple #[.complex .f64 (((rdG l).map wz).getD (0, 0)).1 (((rdG l).map wz).getD (0, 0)).2, .int .i64 (if (rdG l).isSome then 0 else 10)]) ∧ Below w.heap.size w w' := by
  refine (parse_any l hl w hE).mono ?_
  rintro e w' ⟨rfl, hb⟩
  refine ⟨?_, hb⟩
  unfold rdP rdQ rdE rdG
  cases rdOk l with
  | true => rfl
  | false => rfl

/-- What is answered of a value that is read, or not. -/
def pR (o : Option Vl) : Rv := (o.map ofV).getD rv0
def pE (o : Option Vl) : Int := if o.isSome then 0 else 11
structure PA (B : Nat) (o : Option Vl) (e : Ending) (w' : World) : Prop where
  ex : ∃ ao cap, e = .returned (.tuple #[vV ao cap (pR o), .int .i64 (pE o)]) ∧ Vr w' ao (pR o) ∧ OwZ w' B (.slice ao (pR o).zs.length cap) (pR o).zs

def strN : Value → Nat
  | .string s => s.size
  | _ => 0
def bolN : Value → Nat
  | .bool true => 1
  | _ => 0

theorem one4 (t : Int) (a b : Nat) (r : Bool) (ao : Option Addr) (n c : Nat) : ∀ v ∈ ([.int .i64 t, .complex .f64 a b, .bool r, .slice ao n c] : List Value), v.oneCell' = true := by
  intro v hv; simp only [List.mem_cons, List.not_mem_nil, or_false] at hv; rcases hv with rfl | rfl | rfl | rfl <;> rfl

theorem PA_none (B : Nat) (w : World) : PA B none (.returned (.tuple #[.agg #[.int .i64 0, .complex .f64 0 0, .bool false, .slice none 0 0], .int .i64 11])) w :=
  ⟨none, 0, rfl, ⟨⟨by decide, by decide⟩, Zr.nil _ _, Nat.zero_le _⟩, ⟨rfl, .inl ⟨rfl, rfl⟩⟩⟩

theorem map_wz_lt {zs : List Zn} (h : ∀ z ∈ zs, okZ z) : ∀ z ∈ zs.map wz, ltZ z := by
  intro z hz
  obtain ⟨y, hy, rfl⟩ := List.mem_map.1 hz
  exact wz_lt (h y hy)

theorem owns_mono {w : World} {B C : Nat} {e : TypeId} {k n : Nat} {v : Value} {xs : List Value} (h : w.ownsRow C e k v n xs) (hB : B ≤ C) : w.ownsRow B e k v n xs := by
  refine ⟨h.1, ?_⟩
  rcases h.2 with h' | ⟨g, cap, cur, h1, h2, h3⟩
  · exact .inl h'
  · exact .inr ⟨g, cap, cur, h1, Nat.le_trans hB h2, h3⟩

theorem PA_list {B C : Nat} {w : World} {zs : List Zn} {ao : Option Addr} {cap : Nat} (hok : ∀ z ∈ zs, okZ z) (hO : OwZ w C (.slice ao (zs.map wz).length cap) (zs.map wz)) (hB : B ≤ C) (hn : zs.length ≤ 5864062014806) :
    PA B (some (.l zs)) (.returned (.tuple #[.agg #[.int .i64 3, .complex .f64 0 0, .bool false, .slice ao zs.length cap], .int .i64 0])) w := by
  obtain ⟨ao2, c2, e2, _, hzr⟩ := hO.zr (map_wz_lt hok)
  have hao : ao = ao2 := by simp only [Value.slice.injEq] at e2; exact e2.1
  subst hao
  refine ⟨ao, cap, ?_, ⟨⟨Nat.zero_lt_succ _, Nat.zero_lt_succ _⟩, hzr, ?_⟩, owns_mono hO hB⟩
  · show _ = Ending.returned (.tuple #[.agg #[.int .i64 3, .complex .f64 0 0, .bool false, .slice ao (zs.map wz).length cap], .int .i64 0])
    rw [List.length_map]
  · show (zs.map wz).length ≤ _
    rw [List.length_map]
    exact hn

/-- A row stays where another kind of block is written. -/
theorem owns_oth {w w' : World} {B : Nat} {e T : TypeId} {k n : Nat} {v : Value} {xs : List Value} {b : Nat} {vs : List Value} (h : w.ownsRow B e k v n xs) (hb : Bk w b T vs) (hT : T ≠ e) (ho : Oth b w w') : w'.ownsRow B e k v n xs := by
  refine ⟨h.1, ?_⟩
  rcases h.2 with h' | ⟨g, cap, cur, h1, h2, h3, h4⟩
  · exact .inl h'
  · refine .inr ⟨g, cap, cur, h1, h2, ?_, h4⟩
    rw [ho.block g ?_]
    · exact h3
    · intro e2
      subst e2
      unfold Bk at hb
      rw [h3] at hb
      simp only [Option.some.injEq, Obj.cells.injEq] at hb
      exact hT hb.2.1.symm

set_option maxHeartbeats 2000000 in
theorem parseList_any (l : List UInt8) (hl : l.length ≤ 5864062014806) (w : World) (hE : Env w) :
    Calls Tryz.prog 30 #[.string (bs l)] w fun e w' => PA w.heap.size (plV rdG l) e w' ∧ Below w.heap.size w w' := by
  have hcs : ∀ W, Calls Tryz.prog 49 #[.string (bs l), .string ⟨#[93]⟩] W fun e w' => e = .returned (.tuple #[.string (bs (Lib.trimSuffix l [93])), .bool (Lib.hasSuffix l [93])]) ∧ w' = W := by
    intro W
    have := Tryz.strings_CutSuffix (bs l) ⟨#[93]⟩ W (by rw [bs_size]; omega)
    rw [bs_list, show (⟨#[93]⟩ : ByteArray).data.toList = [93] from rfl] at this
    exact this
  have hR0 := Bk.new w 35 #[.int .i64 0, .complex .f64 0 0, .bool false, .slice none 0 0]
  have b0 := below_alloc w (.cells #[.int .i64 0, .complex .f64 0 0, .bool false, .slice none 0 0] 35)
  obtain ⟨A, hA⟩ : ∃ A, Hid (A = plV rdG l) := ⟨_, rfl⟩
  rw [← hA.out]
  have hA2 := hA.out
  unfold plV at hA2
  have hln : (Lib.trimSuffix l [93]).length ≤ l.length := by
    unfold Lib.trimSuffix
    split
    · rw [List.length_take]; omega
    · exact Nat.le_refl _
  cases hq : Lib.hasSuffix l [93] with
  | false =>
    rw [hq] at hcs hA2
    rw [if_neg Bool.false_ne_true] at hA2
    subst hA2
    clear hA
    go_enter Tryz.func30, Tryz.ntmps30
    go_wp2_with fail
    refine (hcs _).mono ?_
    rintro e w1 ⟨rfl, hw1⟩
    rw [hw1]
    clear hw1
    go_wp2_with (refine wpList_storeN rfl 35 (.tmp 2) (.tmp 18) rfl w.heap.size 0 [.int .i64 0, .complex .f64 0 0, .bool false, .slice none 0 0] rfl rfl hR0 (Nat.le_refl 4) Tryz.infoV (one4 _ _ _ _ _ _ _) ?_; intro w9 hB9 hO9)
    have z0 : w9.cell? ⟨w.heap.size, 0, none⟩ = some (.int .i64 0) := hB9.cell 0
    have z1 : w9.cell? ⟨w.heap.size, 1, none⟩ = some (.complex .f64 0 0) := hB9.cell 1
    have z2 : w9.cell? ⟨w.heap.size, 2, none⟩ = some (.bool false) := hB9.cell 2
    have z3 : w9.cell? ⟨w.heap.size, 3, none⟩ = some (.slice none 0 0) := hB9.cell 3
    go_wp2
    exact bodyPost_ret (v := .tuple #[.agg #[.int .i64 0, .complex .f64 0 0, .bool false, .slice none 0 0], .int .i64 11]) (by simp [results, Tryz.results30, go_sem, z0, z1, z2, z3]) rfl ⟨PA_none _ _, b0.trans (hO9.below (Nat.le_refl _))⟩
  | true =>
    rw [hq] at hcs hA2
    rw [if_pos rfl] at hA2
    obtain ⟨I, hI⟩ : ∃ I, I = Lib.trimSuffix l [93] := ⟨_, rfl⟩
    rw [← hI] at hcs hA2 hln
    have HA : Hid (A = (elems rdG I).map .l) := hA2
    have hIl : I.length + 1 ≤ 5864062014806 := by
      have := congrArg List.length (suff_of hq)
      rw [← hI] at this
      simp at this
      omega
    clear hA hA2 hI hq hln hl
    have hst : Hid (elems rdG I = if (!decide (I = [])) then (plE rdG (splitB I)).map ([] ++ ·) else some []) := by
      show _ = _
      unfold elems
      by_cases h : I = []
      · rw [if_pos h]; simp [h]
      · rw [if_neg h]; simp [h]
    have hne : ((bs I).toList == []) = decide (I = []) := by rw [bs_toList]; cases I <;> simp
    generalize hW : w.alloc (.cells #[.int .i64 0, .complex .f64 0 0, .bool false, .slice none 0 0] 35) = W at *
    go_enter Tryz.func30, Tryz.ntmps30
    go_wp2_with fail
    refine (hcs _).mono ?_
    rintro e w1 ⟨rfl, hw1⟩
    rw [hw1]
    clear hw1 hcs hW
    have HR : Hid (Bk W w.heap.size 35 [.int .i64 0, .complex .f64 0 0, .bool false, .slice none 0 0]) := hR0
    have hE1 := env_keep hE b0
    have hns : (!(bs I).toList.isEmpty) = !decide (I = []) := by rw [bs_toList]; cases I <;> simp
    clear hR0 hne
    go_wp2_with fail
    go_loopw [4, 6, 7] (fun s v m wr => ∃ (r : List UInt8) (zs : List Zn) (q : Bool), s = .string (bs r) ∧ m = .bool q ∧ r.length ≤ I.length ∧ zs.length + r.length + (if q then 1 else 0) ≤ I.length + 1 ∧ Below W.heap.size W wr ∧ Hid (OwZ wr W.heap.size v (zs.map wz)) ∧ Hid (∀ z ∈ zs, okZ z) ∧ Hid (elems rdG I = if q then (plE rdG (splitB r)).map (zs ++ ·) else some zs)) (fun s _ m _ => strN s + bolN m)
    case atStart =>
      refine ⟨I, [], !decide (I = []), rfl, ?_, Nat.le_refl _, ?_, Below.refl _ _, ⟨rfl, .inl ⟨rfl, rfl⟩⟩, fun z hz => by simp at hz, hst⟩
      · first | rfl | (rw [← hns]) | (simp; done)
      · split <;> simp
    case round =>
      obtain ⟨r, zs, q, rfl, rfl, hrl, hzl, hB, hO, hok, hel⟩ := hrel
      cases q with
      | false =>
        have hb := HA.out
        rw [hel.out, if_neg Bool.false_ne_true] at hb
        simp only [Option.map_some] at hb
        have hRr := HR.out.up hB
        obtain ⟨ao, cap, e9, hcap, hzr⟩ := hO.out.zr (map_wz_lt hok.out)
        subst e9
        have HK : Hid (OwZ wr W.heap.size (.slice ao (zs.map wz).length cap) (zs.map wz)) := hO.out
        have HOK : Hid (∀ z ∈ zs, okZ z) := hok
        have hlen : (zs.map wz).length = zs.length := List.length_map _
        rw [hlen] at *
        subst hb
        have hz2 : zs.length ≤ 5864062014806 := by rw [if_neg Bool.false_ne_true] at hzl; omega
        clear hel hst hns HA hE1 hO hok
        go_wp2_with (refine wpList_storeN rfl 35 (.tmp 2) (.tmp 41) rfl w.heap.size 0 [.int .i64 3, .complex .f64 0 0, .bool false, .slice ao zs.length cap] rfl rfl hRr (Nat.le_refl 4) Tryz.infoV (one4 _ _ _ _ _ _ _) ?_; intro w9 hB9 hO9)
        have z0 : w9.cell? ⟨w.heap.size, 0, none⟩ = some (.int .i64 3) := hB9.cell 0
        have z1 : w9.cell? ⟨w.heap.size, 1, none⟩ = some (.complex .f64 0 0) := hB9.cell 1
        have z2 : w9.cell? ⟨w.heap.size, 2, none⟩ = some (.bool false) := hB9.cell 2
        have z3 : w9.cell? ⟨w.heap.size, 3, none⟩ = some (.slice ao zs.length cap) := hB9.cell 3
        go_wp2
        have hO2 := owns_oth HK.out hRr (by decide) hO9
        exact bodyPost_ret (v := .tuple #[.agg #[.int .i64 3, .complex .f64 0 0, .bool false, .slice ao zs.length cap], .int .i64 0]) (by simp [results, Tryz.results30, go_sem, z0, z1, z2, z3]) rfl ⟨PA_list HOK.out hO2 b0.size hz2, (b0.trans (hB.mono b0.size)).trans (hO9.below (Nat.le_refl _))⟩
      | true =>
        have hzl2 : zs.length + r.length ≤ I.length := by rw [if_pos rfl] at hzl; omega
        have hcut := fun X => cut_any1 r (by omega) X
        have hel2 := hel.out
        rw [if_pos rfl, cut_splitB r] at hel2
        have hcl : cutQ r = true → (cutZ r).length < r.length := cutZ_len
        have hcz : cutQ r = false → (cutZ r).length = 0 := by
          intro h
          unfold cutZ
          unfold cutQ at h
          rw [if_neg (of_decide_eq_false h)]; rfl
        have hca : (cutA r).length ≤ r.length := by
          unfold cutA
          split
          · rw [List.length_take]; omega
          · exact Nat.le_refl _
        have hgp := fun X (hX : Env X) => gparse_any (cutA r) (by omega) X hX
        have hmeas : strN (.string (bs r)) + bolN (.bool true) = r.length + 1 := by simp [strN, bolN, bs_size]
        have hmeas2 : strN (.string (bs (cutZ r))) = (cutZ r).length := by simp [strN, bs_size]
        generalize cutA r = ra at *
        generalize cutZ r = rz at *
        generalize cutQ r = rq at *
        cases hg : rdG ra with
        | none =>
          have hb := HA.out
          have hN : plE rdG (if rq then ra :: splitB rz else [ra]) = none := by
            cases rq <;> simp [plE, hg]
          rw [hel2, hN] at hb
          simp only [Option.map_none] at hb
          subst hb
          rw [hg] at hgp
          clear hel hel2 hst hns HA hN
          go_wp2_with fail
          refine (hcut _).mono ?_
          rintro e w2 ⟨rfl, hb2⟩
          go_wp2_with fail
          refine (hgp _ (env_keep hE1 (hB.trans (hb2.mono hB.size)))).mono ?_
          rintro e w3 ⟨rfl, hb3⟩
          have hB3 : Below W.heap.size W w3 := (hB.trans (hb2.mono hB.size)).trans (hb3.mono (Nat.le_trans hB.size hb2.size))
          have hRr := HR.out.up hB3
          go_wp2_with (refine wpList_storeN rfl 35 (.tmp 2) (.tmp 35) rfl w.heap.size 0 [.int .i64 0, .complex .f64 0 0, .bool false, .slice none 0 0] rfl rfl hRr (Nat.le_refl 4) Tryz.infoV (one4 _ _ _ _ _ _ _) ?_; intro w9 hB9 hO9)
          have z0 : w9.cell? ⟨w.heap.size, 0, none⟩ = some (.int .i64 0) := hB9.cell 0
          have z1 : w9.cell? ⟨w.heap.size, 1, none⟩ = some (.complex .f64 0 0) := hB9.cell 1
          have z2 : w9.cell? ⟨w.heap.size, 2, none⟩ = some (.bool false) := hB9.cell 2
          have z3 : w9.cell? ⟨w.heap.size, 3, none⟩ = some (.slice none 0 0) := hB9.cell 3
          go_wp2
          exact bodyPost_ret (v := .tuple #[.agg #[.int .i64 0, .complex .f64 0 0, .bool false, .slice none 0 0], .int .i64 11]) (by simp [results, Tryz.results30, go_sem, z0, z1, z2, z3]) rfl ⟨PA_none _ _, (b0.trans (hB3.mono b0.size)).trans (hO9.below (Nat.le_refl _))⟩
        | some z =>
          have hzk := rdG_rdr.of _ _ hg
          rw [hg] at hgp
          simp only [Option.map_some, Option.getD_some, Option.isSome_some, if_true] at hgp
          have HEL : Hid (elems rdG I = if rq then (plE rdG (splitB rz)).map ((zs ++ [z]) ++ ·) else some (zs ++ [z])) := by
            show _ = _
            rw [hel2]
            cases rq with
            | true =>
              simp only [if_true, plE, hg]
              cases plE rdG (splitB rz) <;> simp
            | false => simp [plE, hg]
          have HZK : Hid (okZ z) := hzk.1
          clear hel hel2 hst hns hzk
          go_wp2_with fail
          refine (hcut _).mono ?_
          rintro e w2 ⟨rfl, hb2⟩
          go_wp2_with fail
          refine (hgp _ (env_keep hE1 (hB.trans (hb2.mono hB.size)))).mono ?_
          rintro e w3 ⟨rfl, hb3⟩
          have hb23 := Below.thn hb2 hb3
          have hB3 : Below W.heap.size W w3 := hB.trans (hb23.mono hB.size)
          obtain ⟨v9, w9, r9, o9, k9⟩ := own_cx w3 W.heap.size _ (zs.map wz) (wz z) (owns_up hO.out hb23) hB3.size (by rw [List.length_map]; omega)
          have R9 : Hid (_ = _) := r9
          have O9 : Hid (OwZ w9 W.heap.size v9 ((zs ++ [z]).map wz)) := (show OwZ _ _ _ _ by rw [List.map_append]; exact o9)
          clear r9 o9
          generalize wz z = y at *
          go_wp2_with (at_builtin; refine wpList_append_run rfl (.tmp 36) (.tmp 38) 33 rfl rfl _ _ rfl rfl _ _ (show _ = _ from R9) ?_)
          go_roundw
          case rel =>
            refine ⟨rz, zs ++ [z], rq, rfl, rfl, ?_, ?_, hB3.trans k9.low, O9, ?_, HEL⟩
            · cases rq with
              | true => have := hcl rfl; omega
              | false => have := hcz rfl; omega
            · rw [List.length_append]
              cases rq with
              | true => have := hcl rfl; simp; omega
              | false => have := hcz rfl; simp; omega
            · show ∀ y ∈ zs ++ [z], okZ y
              intro y hy
              rcases List.mem_append.1 hy with h | h
              · exact hok.out y h
              · rw [List.mem_singleton.1 h]; exact HZK.out
          case measure =>
            rw [hmeas, hmeas2]
            cases rq with
            | true => have := hcl rfl; simp [bolN]; omega
            | false => have := hcz rfl; simp [bolN]; omega
end Go.Proofs.YtbgggbkmnfppoaaGreatDoor
