/-
  Rows of values of the call's own; the walk of Split.
-/
import Derived.Test.YtbgggbkmnfppoaaGreatDoorVr
namespace Go.Proofs.YtbgggbkmnfppoaaGreatDoor
open Go.RowKit
set_option maxRecDepth 100000

/-- A value in a row: where its list lies, its room, the value. -/
abbrev It := Option Addr × Nat × Vl
def itC (i : It) : List Value := [.int .i64 (ofV i.2.2).t, .complex .f64 (ofV i.2.2).z.1 (ofV i.2.2).z.2, .bool (ofV i.2.2).r, .slice i.1 (ofV i.2.2).zs.length i.2.1]
def itsC (l : List It) : List Value := l.flatMap itC
/-- A value's list lies in a row of the call's own. -/
structure ItW (w : World) (B : Nat) (i : It) : Prop where
  ok : okV i.2.2
  own : OwZ w B (.slice i.1 (ofV i.2.2).zs.length i.2.1) (ofV i.2.2).zs
  n : (ofV i.2.2).zs.length ≤ 5864062014806
/-- A row of values. -/
structure SR (w : World) (B : Nat) (v : Value) (its : List It) : Prop where
  row : w.ownsRow B 35 4 v its.length (itsC its)
  its : ∀ i ∈ its, ItW w B i

theorem ofV_lt {u : Vl} (h : okV u) : ltZ (ofV u).z ∧ ∀ z ∈ (ofV u).zs, ltZ z := by
  cases u with
  | n z => exact ⟨wz_lt h, fun z hz => by simp [ofV] at hz⟩
  | b r => exact ⟨⟨Nat.zero_lt_succ _, Nat.zero_lt_succ _⟩, fun z hz => by simp [ofV] at hz⟩
  | l zs => exact ⟨⟨Nat.zero_lt_succ _, Nat.zero_lt_succ _⟩, map_wz_lt h⟩

theorem OwZ.vr {w : World} {B : Nat} {ao : Option Addr} {cap : Nat} {v : Rv} (h : OwZ w B (.slice ao v.zs.length cap) v.zs) (hz : ltZ v.z) (hl : ∀ z ∈ v.zs, ltZ z) (hn : v.zs.length ≤ 5864062014806) : Vr w ao v := by
  obtain ⟨ao2, c2, e2, _, hzr⟩ := h.zr hl
  have hao : ao = ao2 := by simp only [Value.slice.injEq] at e2; exact e2.1
  subst hao
  exact ⟨hz, hzr, hn⟩
theorem ItW.vr {w : World} {B : Nat} {i : It} (h : ItW w B i) : Vr w i.1 (ofV i.2.2) := h.own.vr (ofV_lt h.ok).1 (ofV_lt h.ok).2 h.n
theorem ItW.up {w w' : World} {B : Nat} {i : It} (h : ItW w B i) (hb : Below w.heap.size w w') : ItW w' B i := ⟨h.ok, owns_up h.own hb, h.n⟩
theorem SR.up {w w' : World} {B : Nat} {v : Value} {its : List It} (h : SR w B v its) (hb : Below w.heap.size w w') : SR w' B v its := ⟨owns_up h.row hb, fun i hi => (h.its i hi).up hb⟩
theorem owns_kt {w w' : World} {B C : Nat} {e T : TypeId} {k n : Nat} {v : Value} {xs : List Value} (h : w.ownsRow C e k v n xs) (hK : Kt B T w w') (hT : e ≠ T) : w'.ownsRow C e k v n xs := by
  refine ⟨h.1, ?_⟩
  rcases h.2 with h' | ⟨g, cap, cur, h1, h2, h3, h4⟩
  · exact .inl h'
  · exact .inr ⟨g, cap, cur, h1, h2, (hK.own g _ _ _ h3 hT).trans h3, h4⟩

theorem Tryz.infoVv : (Tryz.prog.info? 35).map (fun i => (i.zero, i.size, i.bytes)) = some (some (.agg #[.int .i64 0, .complex .f64 0 0, .bool false, .slice none 0 0]), 4, 56) := by kernel_rfl
theorem Tryz.underVs : Tryz.prog.underlying 47 = some (.slice 35) := by kernel_rfl

/-- One value more. -/
theorem own_val (w : World) (B : Nat) (v : Value) (its : List It) (i : It) (h : SR w B v its) (hi : ItW w B i) (hB : B ≤ w.heap.size) (hn : its.length < 2500000000000) :
    ∃ v' w', (Builtin.append_ #[47, 47] 47 #[v, .slice (some ⟨w.heap.size, 0, none⟩) 1 1]).run Tryz.prog (w.alloc (.cells (itC i).toArray 35)) = .ok v' w' ∧ SR w' B v' (its ++ [i]) ∧ Kt B 35 w w' := by
  obtain ⟨i0, hi0, hz⟩ := Option.map_eq_some_iff.1 Tryz.infoVv
  simp only [Prod.mk.injEq] at hz
  obtain ⟨v', w', hr, ho, hk⟩ := own_one 35 47 4 56 i0 (.agg #[.int .i64 0, .complex .f64 0 0, .bool false, .slice none 0 0]) Tryz.underVs hi0 hz.1 hz.2.1 hz.2.2 rfl (by decide) w B v its.length _ (itC i).toArray h.row hB rfl (by intro u hu; exact one4 _ _ _ _ _ _ _ u (by simpa [itC] using hu)) (by unfold maxLen; omega) (by omega)
  refine ⟨v', w', hr, ⟨?_, ?_⟩, hk⟩
  · unfold itsC at ho ⊢
    rw [List.length_append, List.flatMap_append]
    simpa using ho
  · intro j hj
    have hjw : ItW w B j := by
      rcases List.mem_append.1 hj with h1 | h1
      · exact h.its j h1
      · rw [List.mem_singleton.1 h1]; exact hi
    exact ⟨hjw.ok, owns_kt hjw.own hk (by decide), hjw.n⟩

/-- What Split answers. -/
def sE (o : Option (List Vl)) : Int := if o.isSome then 0 else 11
structure SA (B : Nat) (o : Option (List Vl)) (e : Ending) (w' : World) : Prop where
  ex : ∃ v its, e = .returned (.tuple #[v, .int .i64 (sE o)]) ∧ SR w' B v its ∧ its.map (·.2.2) = o.getD []

theorem SA_none (B : Nat) (w : World) : SA B none (.returned (.tuple #[.slice none 0 0, .int .i64 11])) w :=
  ⟨.slice none 0 0, [], rfl, ⟨⟨rfl, .inl ⟨rfl, rfl⟩⟩, fun i hi => by simp at hi⟩, rfl⟩

theorem stays_prefix {l : List UInt8} (h : l ≠ []) : stays l = !Lib.hasPrefix l [32] := by
  cases l with
  | nil => exact absurd rfl h
  | cons b r =>
    simp only [stays, Lib.hasPrefix, List.isPrefixOf, Bool.and_true]
    by_cases e : b = 32
    · simp [e]
    · have e2 : (32 == b) = false := by rw [beq_eq_false_iff_ne]; exact fun h => e h.symm
      rw [e2]
      simpa using e

/-- A value read, stored, appended. -/
theorem split_step {wr w2 w3 : World} {B : Nat} {v : Value} {its : List It} {u : Vl} {ao : Option Addr} {cap : Nat} {o : Obj} (hS : SR wr B v its) (hu : okV u) (hO : OwZ w2 wr.heap.size (.slice ao (ofV u).zs.length cap) (ofV u).zs) (hN : (ofV u).zs.length ≤ 5864062014806)
    (hb2 : Below wr.heap.size wr w2) (hBs : B ≤ wr.heap.size) (hO3 : Oth w2.heap.size (w2.alloc o) w3) (hn : its.length < 2500000000000) :
    ∃ v9 w9, (Builtin.append_ #[47, 47] 47 #[v, .slice (some ⟨w3.heap.size, 0, none⟩) 1 1]).run Tryz.prog (w3.alloc (.cells #[.int .i64 (ofV u).t, .complex .f64 (ofV u).z.1 (ofV u).z.2, .bool (ofV u).r, .slice ao (ofV u).zs.length cap] 35)) = .ok v9 w9 ∧
      SR w9 B v9 (its ++ [(ao, cap, u)]) ∧ Below B wr w9 := by
  have b23 : Below w2.heap.size w2 w3 := (below_alloc w2 o).trans (hO3.below (Nat.le_refl _))
  have b13 := Below.thn hb2 b23
  obtain ⟨v9, w9, r9, s9, k9⟩ := own_val w3 B v its (ao, cap, u) (hS.up b13) ⟨hu, owns_up (owns_mono hO hBs) b23, hN⟩ (Nat.le_trans hBs b13.size) hn
  exact ⟨v9, w9, r9, s9, (b13.mono hBs).trans k9.low⟩

set_option maxHeartbeats 2000000 in
theorem split_any (l : List UInt8) (hl : l.length ≤ 2000000000000) (w : World) (hE : Env w) :
    Calls Tryz.prog 19 #[.string (bs l)] w fun e w' => SA w.heap.size (spl rdG l) e w' ∧ Below w.heap.size w w' := by
  obtain ⟨A, hA⟩ : ∃ A, Hid (A = spl rdG l) := ⟨_, rfl⟩
  rw [← hA.out]
  have hsk := skip_any l w
  have h0 : Hid (spl rdG l = (spl rdG (skp l)).map ([] ++ ·)) := by
    show _ = _
    rw [spl_skp]
    cases spl rdG l <;> simp
  have hk0 := skp_len l
  have hkk := skp_skp l
  go_enter Tryz.func19, Tryz.ntmps19
  go_wp2_with fail
  refine hsk.mono ?_
  rintro e w1 ⟨rfl, hw1⟩
  rw [hw1]
  clear hw1 hsk
  go_wp2_with fail
  go_loopw [0, 4] (fun s v wr => ∃ (r : List UInt8) (its : List It), s = .string (bs r) ∧ skp r = r ∧ its.length + r.length ≤ l.length ∧ Below w.heap.size w wr ∧ Hid (SR wr w.heap.size v its) ∧ Hid (spl rdG l = (spl rdG r).map (its.map (·.2.2) ++ ·))) (fun s _ _ => strN s)
  case atStart => exact ⟨skp l, [], rfl, hkk, by simpa using hk0, Below.refl _ _, ⟨⟨rfl, .inl ⟨rfl, rfl⟩⟩, fun i hi => by simp at hi⟩, h0⟩
  case round =>
    obtain ⟨r, its, rfl, hr, hln, hB, hS, hsp⟩ := hrel
    clear h0 hk0 hkk
    by_cases hr0 : r = []
    · have hb := hA.out
      rw [hsp.out, hr0, spl_nil rfl] at hb
      simp only [Option.map_some, List.append_nil] at hb
      have hns : ((bs r).toList.isEmpty) = true := by rw [bs_toList, hr0]; rfl
      have KEY : Hid (∀ v, v = u4 → SA w.heap.size A (.returned (.tuple #[v, .int .i64 0])) wr) := by
        intro v hv
        rw [hb, hv]
        exact ⟨u4, its, rfl, hS.out, rfl⟩
      clear hb hsp hA hr0 hr
      go_wp2
      go_ret2
      exact ⟨KEY.out _ rfl, hB⟩
    · have hns : ((bs r).toList.isEmpty) = false := by rw [bs_toList]; cases r with | nil => exact absurd rfl hr0 | cons => rfl
      have heo := fun X => eof_any r (by omega) X
      have htl := tokE_le r
      have htp : 0 < tokE r := by
        cases r with
        | nil => exact absurd rfl hr0
        | cons b t => exact tokE_pos (skp_head hr) t
      have hspc := spl_cons (rd := rdG) hr hr0
      have hsz := bs_size r
      have hx1 : (bs r).extract (tokE r) (bs r).size = bs (r.drop (tokE r)) := by rw [bs_extract, hsz, List.take_of_length_le (by simp)]
      have hx2 : (bs r).extract 0 (tokE r) = bs (r.take (tokE r)) := by rw [bs_extract]; simp
      have hpar := fun X (hX : Env X) => parseV_any (r.take (tokE r)) (by rw [List.length_take]; omega) X hX
      have hhp : ∀ X, Calls Tryz.prog 37 #[.string (bs (r.drop (tokE r))), .string ⟨#[32]⟩] X fun e w' => e = .returned (.bool (Lib.hasPrefix (r.drop (tokE r)) [32])) ∧ w' = X := by
        intro X
        have := Tryz.strings_HasPrefix (bs (r.drop (tokE r))) ⟨#[32]⟩ X
        rw [bs_list, show (⟨#[32]⟩ : ByteArray).data.toList = [32] from rfl] at this
        exact this
      have hskd := fun X => skip_any (r.drop (tokE r)) X
      have hdl : (r.drop (tokE r)).length + tokE r = r.length := by rw [List.length_drop]; omega
      have hrd : Hid (skp (r.drop (tokE r)) = skp (r.drop (tokE r))) := rfl
      have hlr := hln
      by_cases hlt : tokE r < r.length
      · have hne : r.drop (tokE r) ≠ [] := by
          intro e
          have := congrArg List.length e
          rw [List.length_drop] at this
          simp at this
          omega
        have hst := stays_prefix hne
        have g1 : decide ((tokE r : Int) < ((bs r).size : Int)) = true := by rw [hsz]; simpa using hlt
        have g2 : (tokE r : Int) ≤ ((bs r).size : Int) := by rw [hsz]; omega
        have g3 : tokE r ≤ (bs r).size := by rw [hsz]; omega
        have g4 : (tokE r : Int) < ((bs r).size : Int) := by rw [hsz]; omega
        cases hq : Lib.hasPrefix (r.drop (tokE r)) [32] with
        | false =>
          rw [hq] at hst hhp
          have hb := hA.out
          rw [hsp.out, hspc, hst] at hb
          simp only [Bool.not_false, if_true, Option.map_none] at hb
          subst hb
          clear hsp hspc hA hpar hskd hrd hdl hst hq hne hx2 hr hlr hlt hsz
          generalize tokE r = te at *
          generalize r.drop te = rd at *
          generalize bs r = sr at *
          rw [← hx1] at hhp
          clear hx1
          go_wp2_with fail
          refine (heo _).mono ?_
          rintro e w2 ⟨rfl, hw2⟩
          rw [hw2]
          clear hw2
          go_wp2_with fail
          refine (hhp _).mono ?_
          rintro e w2 ⟨rfl, hw2⟩
          rw [hw2]
          clear hw2
          go_wp2
          go_ret2
          exact ⟨SA_none _ _, hB⟩
        | true =>
          rw [hq] at hst hhp
          rw [hst] at hspc
          simp only [Bool.not_true, Bool.false_eq_true, if_false] at hspc
          have HDL : Hid ((r.drop (tokE r)).length + tokE r = r.length) := hdl
          have HTP : Hid (0 < tokE r) := htp
          have HLN : Hid (its.length + r.length ≤ l.length) := hln
          have HSZ : Hid ((bs r).size = r.length) := hsz
          clear hst hq hne hr hlr hlt hdl htl htp hrd hr0
          have hcl2 := hspc
          clear hspc
          have hspc := hcl2
          clear hcl2 hsz
          generalize hte : tokE r = te at *
          generalize hrd2 : r.drop te = rd at *
          generalize hrt2 : r.take te = rt at *
          rw [← hx1] at hhp hskd
          rw [← hx2] at hpar
          clear hte hrd2 hrt2 hx1 hx2
          generalize hsr : bs r = sr at *
          clear hsr
          go_wp2_with fail
          refine (heo _).mono ?_
          rintro e w5 ⟨rfl, hw5⟩
          rw [hw5]
          clear hw5
          go_wp2_with fail
          refine (hhp _).mono ?_
          rintro e w5 ⟨rfl, hw5⟩
          rw [hw5]
          clear hw5
          go_wp2_with fail
          refine (hpar _ (env_keep hE hB)).mono ?_
          rintro e w2 ⟨hpa, hb2⟩
          obtain ⟨ao, cap, rfl, hvr, hO⟩ := hpa.ex
          have hZ0 := Bk.new w2 35 #[.int .i64 0, .complex .f64 0 0, .bool false, .slice none 0 0]
          cases hg : pvV rdG rt with
          | none =>
            have hb := hA.out
            rw [hsp.out, hspc, hg] at hb
            simp only [Option.map_none] at hb
            subst hb
            rw [show pR none = rv0 from rfl, show pE none = 11 from rfl]
            unfold vV rv0
            clear hvr hO hpa hsp hspc hA hpar hg
            go_wp2_with (refine wpList_storeN rfl 35 (.tmp 6) (.tmp 32) rfl w2.heap.size 0 [.int .i64 0, .complex .f64 0 0, .bool false, .slice ao 0 cap] rfl rfl hZ0 (Nat.le_refl 4) Tryz.infoV (one4 _ _ _ _ _ _ _) ?_; intro w9 hB9 hO9)
            go_ret2
            exact ⟨SA_none _ _, (Below.thn hB hb2).trans (((below_alloc w2 _).mono (Nat.le_trans hB.size hb2.size)).trans (hO9.below (Nat.le_trans hB.size hb2.size)))⟩
          | some u =>
            have hu := (pv_of rdG_rdr hg).1
            rw [hg] at hvr hO
            rw [show pR (some u) = ofV u from rfl] at hvr hO
            rw [show pR (some u) = ofV u from rfl, show pE (some u) = 0 from rfl]
            have HSP : Hid (spl rdG l = (spl rdG (skp rd)).map ((its ++ [(ao, cap, u)]).map (·.2.2) ++ ·)) := by
              show _ = _
              rw [hsp.out, hspc, hg, spl_skp]
              cases spl rdG rd <;> simp
            unfold vV
            clear hpa hsp hspc hpar hg
            have HU : Hid (okV u) := hu
            have HO : Hid (OwZ w2 wr.heap.size (.slice ao (ofV u).zs.length cap) (ofV u).zs) := hO
            have HN : Hid ((ofV u).zs.length ≤ 5864062014806) := hvr.n
            have HIT : Hid (itC (ao, cap, u) = [.int .i64 (ofV u).t, .complex .f64 (ofV u).z.1 (ofV u).z.2, .bool (ofV u).r, .slice ao (ofV u).zs.length cap]) := rfl
            clear hvr hO hu
            go_wp2_with (first
              | (refine wpList_storeN rfl 35 (.tmp 6) (.tmp 32) rfl w2.heap.size 0 [.int .i64 (ofV u).t, .complex .f64 (ofV u).z.1 (ofV u).z.2, .bool (ofV u).r, .slice ao (ofV u).zs.length cap] rfl rfl hZ0 (Nat.le_refl 4) Tryz.infoV (one4 _ _ _ _ _ _ _) ?_; intro w3 hB3 hO3; obtain ⟨v9, w9, r9, S9, b9⟩ := split_step hS.out HU.out HO.out HN.out hb2 hB.size hO3 (by have := HLN.out; omega); have R9 : Hid (_ = _) := r9; clear r9
                 have c0 : w3.cell? ⟨w2.heap.size, 0, none⟩ = some (.int .i64 (ofV u).t) := hB3.cell 0
                 have c1 : w3.cell? ⟨w2.heap.size, 1, none⟩ = some (.complex .f64 (ofV u).z.1 (ofV u).z.2) := hB3.cell 1
                 have c2 : w3.cell? ⟨w2.heap.size, 2, none⟩ = some (.bool (ofV u).r) := hB3.cell 2
                 have c3 : w3.cell? ⟨w2.heap.size, 3, none⟩ = some (.slice ao (ofV u).zs.length cap) := hB3.cell 3)
              | (at_builtin; refine wpList_append_run rfl (.tmp 37) (.tmp 39) 47 rfl rfl _ _ rfl rfl _ _ (show _ = _ from R9) ?_)
              | fail)
            refine (hskd _).mono ?_
            rintro e w4 ⟨rfl, hw4⟩
            rw [hw4]
            clear hw4
            go_wp2_with fail
            go_roundw
            case rel =>
              refine ⟨skp rd, its ++ [(ao, cap, u)], rfl, skp_skp rd, ?_, hB.trans b9, S9, HSP⟩
              have := skp_len rd
              have := HDL.out
              have := HTP.out
              have := HLN.out
              rw [List.length_append]
              simp
              omega
            case measure =>
              have := skp_len rd
              have := HDL.out
              have := HTP.out
              have := HSZ.out
              simp [strN, bs_size]
              omega
      · have hte0 : tokE r = r.length := by omega
        have hdr : r.drop (tokE r) = [] := by rw [hte0, List.drop_length]
        have g1 : decide ((tokE r : Int) < ((bs r).size : Int)) = false := by rw [hsz]; simpa using hlt
        have g2 : (tokE r : Int) ≤ ((bs r).size : Int) := by rw [hsz]; omega
        have g3 : tokE r ≤ (bs r).size := by rw [hsz]; omega
        have g4 : ¬ (tokE r : Int) < ((bs r).size : Int) := by rw [hsz]; omega
        have hst : stays (r.drop (tokE r)) = false := by rw [hdr]; rfl
        rw [hst] at hspc
        simp only [Bool.false_eq_true, if_false] at hspc
        have HDL : Hid ((r.drop (tokE r)).length + tokE r = r.length) := hdl
        have HTP : Hid (0 < tokE r) := htp
        have HLN : Hid (its.length + r.length ≤ l.length) := hln
        have HSZ : Hid ((bs r).size = r.length) := hsz
        clear hst hr hlr hlt hdl htl htp hrd hr0 hte0 hdr
        have hcl2 := hspc
        clear hspc
        have hspc := hcl2
        clear hcl2 hsz
        generalize hte : tokE r = te at *
        generalize hrd2 : r.drop te = rd at *
        generalize hrt2 : r.take te = rt at *
        rw [← hx1] at hhp hskd
        rw [← hx2] at hpar
        clear hte hrd2 hrt2 hx1 hx2
        generalize hsr : bs r = sr at *
        clear hsr
        go_wp2_with fail
        refine (heo _).mono ?_
        rintro e w5 ⟨rfl, hw5⟩
        rw [hw5]
        clear hw5
        go_wp2_with fail
        refine (hpar _ (env_keep hE hB)).mono ?_
        rintro e w2 ⟨hpa, hb2⟩
        obtain ⟨ao, cap, rfl, hvr, hO⟩ := hpa.ex
        have hZ0 := Bk.new w2 35 #[.int .i64 0, .complex .f64 0 0, .bool false, .slice none 0 0]
        cases hg : pvV rdG rt with
        | none =>
          have hb := hA.out
          rw [hsp.out, hspc, hg] at hb
          simp only [Option.map_none] at hb
          subst hb
          rw [show pR none = rv0 from rfl, show pE none = 11 from rfl]
          unfold vV rv0
          clear hvr hO hpa hsp hspc hA hpar hg
          go_wp2_with (refine wpList_storeN rfl 35 (.tmp 6) (.tmp 32) rfl w2.heap.size 0 [.int .i64 0, .complex .f64 0 0, .bool false, .slice ao 0 cap] rfl rfl hZ0 (Nat.le_refl 4) Tryz.infoV (one4 _ _ _ _ _ _ _) ?_; intro w9 hB9 hO9)
          go_ret2
          exact ⟨SA_none _ _, (Below.thn hB hb2).trans (((below_alloc w2 _).mono (Nat.le_trans hB.size hb2.size)).trans (hO9.below (Nat.le_trans hB.size hb2.size)))⟩
        | some u =>
          have hu := (pv_of rdG_rdr hg).1
          rw [hg] at hvr hO
          rw [show pR (some u) = ofV u from rfl] at hvr hO
          rw [show pR (some u) = ofV u from rfl, show pE (some u) = 0 from rfl]
          have HSP : Hid (spl rdG l = (spl rdG (skp rd)).map ((its ++ [(ao, cap, u)]).map (·.2.2) ++ ·)) := by
            show _ = _
            rw [hsp.out, hspc, hg, spl_skp]
            cases spl rdG rd <;> simp
          unfold vV
          clear hpa hsp hspc hpar hg
          have HU : Hid (okV u) := hu
          have HO : Hid (OwZ w2 wr.heap.size (.slice ao (ofV u).zs.length cap) (ofV u).zs) := hO
          have HN : Hid ((ofV u).zs.length ≤ 5864062014806) := hvr.n
          have HIT : Hid (itC (ao, cap, u) = [.int .i64 (ofV u).t, .complex .f64 (ofV u).z.1 (ofV u).z.2, .bool (ofV u).r, .slice ao (ofV u).zs.length cap]) := rfl
          clear hvr hO hu
          go_wp2_with (first
            | (refine wpList_storeN rfl 35 (.tmp 6) (.tmp 32) rfl w2.heap.size 0 [.int .i64 (ofV u).t, .complex .f64 (ofV u).z.1 (ofV u).z.2, .bool (ofV u).r, .slice ao (ofV u).zs.length cap] rfl rfl hZ0 (Nat.le_refl 4) Tryz.infoV (one4 _ _ _ _ _ _ _) ?_; intro w3 hB3 hO3; obtain ⟨v9, w9, r9, S9, b9⟩ := split_step hS.out HU.out HO.out HN.out hb2 hB.size hO3 (by have := HLN.out; omega); have R9 : Hid (_ = _) := r9; clear r9
               have c0 : w3.cell? ⟨w2.heap.size, 0, none⟩ = some (.int .i64 (ofV u).t) := hB3.cell 0
               have c1 : w3.cell? ⟨w2.heap.size, 1, none⟩ = some (.complex .f64 (ofV u).z.1 (ofV u).z.2) := hB3.cell 1
               have c2 : w3.cell? ⟨w2.heap.size, 2, none⟩ = some (.bool (ofV u).r) := hB3.cell 2
               have c3 : w3.cell? ⟨w2.heap.size, 3, none⟩ = some (.slice ao (ofV u).zs.length cap) := hB3.cell 3)
            | (at_builtin; refine wpList_append_run rfl (.tmp 37) (.tmp 39) 47 rfl rfl _ _ rfl rfl _ _ (show _ = _ from R9) ?_)
            | fail)
          refine (hskd _).mono ?_
          rintro e w4 ⟨rfl, hw4⟩
          rw [hw4]
          clear hw4
          go_wp2_with fail
          go_roundw
          case rel =>
            refine ⟨skp rd, its ++ [(ao, cap, u)], rfl, skp_skp rd, ?_, hB.trans b9, S9, HSP⟩
            have := skp_len rd
            have := HDL.out
            have := HTP.out
            have := HLN.out
            rw [List.length_append]
            simp
            omega
          case measure =>
            have := skp_len rd
            have := HDL.out
            have := HTP.out
            have := HSZ.out
            simp [strN, bs_size]
            omega
end Go.Proofs.YtbgggbkmnfppoaaGreatDoor
