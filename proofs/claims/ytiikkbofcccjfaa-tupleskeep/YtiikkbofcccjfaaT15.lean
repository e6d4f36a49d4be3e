/-
  Does a table rise? The document's Rises.
-/
import Derived.Test.YtiikkbofcccjfaaT11
namespace Go.Proofs.Ytiikkbofcccjfaa
open Go.RowKit
open Go.Lib
open RowsM
set_option maxRecDepth 100000

/-- No fall from the tuples ahead of number n, and from it none at the places ahead of j. -/
def rs2 (ks : List Int) (f : Nat → Nat) (n j : Nat) : Prop := (∀ m, m < n → ∀ i, i < ks.length → upAt ks f i m) ∧ ∀ i, i < j → upAt ks f i n
theorem rs2_zero (ks : List Int) (f : Nat → Nat) : rs2 ks f 0 0 := ⟨fun m hm => absurd hm (Nat.not_lt_zero m), fun i hi => absurd hi (Nat.not_lt_zero i)⟩
theorem rs2_more {ks : List Int} {f : Nat → Nat} {n j : Nat} (h : rs2 ks f n j) (hu : upAt ks f j n) : rs2 ks f n (j + 1) := by
  refine ⟨h.1, fun i hi => ?_⟩
  rcases Nat.lt_or_ge i j with h1 | h1
  · exact h.2 i h1
  · obtain rfl : i = j := by omega
    exact hu
theorem rs2_row {ks : List Int} {f : Nat → Nat} {n : Nat} (h : rs2 ks f n ks.length) : rs2 ks f (n + 1) 0 := by
  refine ⟨fun m hm => ?_, fun i hi => absurd hi (Nat.not_lt_zero i)⟩
  rcases Nat.lt_or_ge m n with h1 | h1
  · exact h.1 m h1
  · obtain rfl : m = n := by omega
    exact h.2
theorem rs2_end {ks : List Int} {f : Nat → Nat} {N : Nat} (h : rs2 ks f N 0) : risS ks N f = true := risS_iff.2 fun j hj n hn => h.1 n hn j hj

/-- A step's tuple and its number. -/
theorem step_tup {ks : List Int} (hE : cntE ks = 0) {j : Nat} (hj : j < ks.length) {n : Nat} (hn : (n : Int) < prodT ks) (hp : isP (ks.getD j 0) ((tupL ks n).getD j 0 + 1) = true) :
    numE ks ((tupL ks n).set j ((tupL ks n).getD j 0 + 1)) = 0 ∧ numV ks ((tupL ks n).set j ((tupL ks n).getD j 0 + 1)) = (n : Int) + prodT (ks.drop (j + 1)) ∧ stepAt ks j n := by
  obtain ⟨hk, _⟩ := cntE_zero hE
  have hl := tupL_len ks n
  have e2 : numE ks ((tupL ks n).set j ((tupL ks n).getD j 0 + 1)) = 0 := by
    unfold numE
    rw [if_pos hE, if_pos (by rw [List.length_set]; exact hl.symm), if_pos (okPs_set (tupL_ok hk n) hp hj)]
  refine ⟨e2, ?_, ?_⟩
  · unfold numV
    rw [if_pos e2, num_set hl.symm hj, num_tup_at hk (by omega) hn, Int.one_mul]
  · rw [tupL_get ks n j hj, step_iff hk hj _ (by omega)] at hp
    unfold stepAt
    exact of_decide_eq_true hp
theorem step_no {ks : List Int} (hk : okTs ks = true) {j : Nat} (hj : j < ks.length) {n : Nat} (hp : isP (ks.getD j 0) ((tupL ks n).getD j 0 + 1) = false) : ¬ stepAt ks j n := by
  rw [tupL_get ks n j hj, step_iff hk hj _ (by omega)] at hp
  unfold stepAt
  exact of_decide_eq_false hp
theorem dig_rng {ks : List Int} (hk : okTs ks = true) {j : Nat} (hj : j < ks.length) (n : Int) : 0 ≤ (tupL ks n).getD j 0 ∧ (tupL ks n).getD j 0 ≤ 3 := by
  have h := okPs_get (tupL_ok hk n) hj
  have h3 := top_le3 (ks.getD j 0)
  have h' : 0 ≤ (tupL ks n).getD j 0 ∧ (tupL ks n).getD j 0 ≤ topP (ks.getD j 0) := by simpa [isP] using h
  omega

set_option maxHeartbeats 4000000 in
theorem rrises_any (ks : List Int) (t n : Int) (xs : List Nat) (ao bo : Option Addr) (ca cb : Nat) (w : World) (h : TbW w ks xs ao bo ca cb) :
    Calls Try.prog 28 #[.agg #[.slice ao ks.length ca, .int .i64 t, .int .i64 n, .slice bo xs.length cb]] w fun e w' => RisEnd (rsV ks t n xs) (rsE ks t n xs) w e w' := by
  have s0 := S4.new w (.slice ao ks.length ca) (.int .i64 t) (.int .i64 n) (.slice bo xs.length cb)
  have b0 := below_alloc w (.cells #[.slice ao ks.length ca, .int .i64 t, .int .i64 n, .slice bo xs.length cb] 43)
  have h0 := h.up b0
  obtain ⟨p0, p1, p2, p3⟩ := s0.cells
  have hpt := points16_any ks t n xs ao bo ca cb _ h0
  unfold rsV rsE
  by_cases hok : okTab ks t n xs = true
  · rw [hok] at hpt ⊢
    simp only [if_true, Bool.true_and]
    obtain ⟨hE, _, hn, hr, _⟩ := okTab_iff.1 hok
    obtain ⟨hk, hk4⟩ := cntE_zero hE
    have hp1 := prodT_pos hk
    rw [← hn] at hk4 hp1
    obtain ⟨N, hN⟩ : ∃ N : Nat, n = (N : Int) := ⟨n.toNat, by omega⟩
    subst hN
    obtain ⟨r, hre⟩ : ∃ r : Bool, r = risS ks (N : Int).toNat (cellAt xs) := ⟨_, rfl⟩
    rw [← hre]
    have HR : Hid (r = risS ks N (cellAt xs)) := hre
    have HN : Hid ((N : Int) = prodT ks) := hn
    have HE : Hid (cntE ks = 0) := hE
    have HK : Hid (okTs ks = true) := hk
    have hlen : (cellsL (N : Int) xs).length = N := by rw [cellsL_len]; simp
    have HLEN : Hid ((cellsL (N : Int) xs).length = N) := hlen
    have hat : ∀ k, k < N → (cellsL (N : Int) xs).getD k 0 = cellAt xs k := fun k hk => by
      unfold cellsL
      rw [List.getD_eq_getElem?_getD, List.getElem?_map, List.getElem?_range (by simpa using hk)]
      rfl
    have HAT : Hid (∀ k, k < N → (cellsL (N : Int) xs).getD k 0 = cellAt xs k) := hat
    have hN4 : N ≤ 4096 := by omega
    unfold PtsEnd at hpt
    clear hre hn hk hr hE hok hk4 hp1 hlen hat
    go_enter Try.func28, Try.ntmps28
    go_wp2_with fail
    refine hpt.mono ?_
    rintro e w1 ⟨v, rfl, hv, _, hb⟩
    clear p0 p1 p2 p3
    have s1 := s0.up hb
    have h1 := h0.up hb
    have b1 := Below.thn b0 hb
    obtain ⟨p0, p1, p2, p3⟩ := s1.cells
    clear s0 b0 hb h hpt
    have hiz1 := h1.iz
    have hl1 := h1.l1
    have ho1 := hv trivial
    obtain ⟨co, cap, rfl, hri⟩ := ho1.form
    rw [HLEN.out]
    have hc1 : ∀ wr, Below w1.heap.size w1 wr → ∀ k, k < N → ∃ b off, co = some ⟨b, off, none⟩ ∧ ∀ t, t < N → wr.cell? ⟨b, off + t, none⟩ = some (.int .i64 (cellAt xs t : Nat)) := fun wr hb k hk => by
      obtain ⟨b, off, e, hc⟩ := (hri.up hb) (by intro e; have := HLEN.out; rw [e] at this; simp at this; omega)
      exact ⟨b, off, e, fun t ht => by rw [hc t (by rw [HLEN.out]; exact ht), HAT.out t ht]⟩
    have hz1 := b1.size
    clear h1 h0 hv ho1 hri HLEN HAT
    go_wp2
    clear p0 p1 p2 p3
    go_loopw [6] (fun i wr => ∃ k : Nat, k ≤ N ∧ i = .int .i64 k ∧ Below w1.heap.size w1 wr ∧ Hid (rs2 ks (cellAt xs) k 0)) (fun i _ => N - (intOf i).toNat)
    case atStart => exact ⟨0, Nat.zero_le _, rfl, Below.refl _ _, rs2_zero _ _⟩
    case round =>
      obtain ⟨k, hkN, rfl, hbz, HT⟩ := hrel
      by_cases hkl : k < N
      · have hta := rtuple_any ks (k : Int) ao ca wr (hiz1.up hbz) hl1
        have hkp : (k : Int) < prodT ks := by rw [← HN.out]; omega
        have hte : tupE ks (k : Int) = 0 := by unfold tupE; rw [if_pos HE.out, if_pos ⟨by omega, hkp⟩]
        have htv : tupV ks (k : Int) = tupL ks (k : Int) := by unfold tupV; rw [if_pos hte]
        unfold TupEnd at hta
        rw [hte, htv, tupL_len] at hta
        have HKP : Hid ((k : Int) < prodT ks) := hkp
        clear hte htv hkp
        obtain ⟨p0, p1, p2, p3⟩ := (s1.up hbz).cells
        go_wp2_with fail
        refine hta.mono ?_
        rintro e w2 ⟨v, rfl, hO, hb⟩
        clear p0 p1 p2 p3 hta
        have b2 := Below.thn hbz hb
        have hzr := hbz.size
        have hO2 := owns_mono hO hzr
        obtain ⟨xo, xc, rfl, _, _, hxp⟩ := own_iz hO2 (tupL_len ks k).symm
        rw [tupL_len]
        rw [tupL_len] at hO2
        obtain ⟨L, hLe⟩ : ∃ L, L = tupL ks (k : Int) := ⟨_, rfl⟩
        rw [← hLe] at hO2 hxp
        have HL : Hid (L = tupL ks (k : Int)) := hLe
        have hLl : L.length = ks.length := by rw [hLe, tupL_len]
        have HLL : Hid (L.length = ks.length) := hLl
        clear hO hLe hLl hb
        go_wp2
        go_loopw [9] (fun i wr => ∃ j : Nat, j ≤ ks.length ∧ i = .int .i64 j ∧ Below w1.heap.size w1 wr ∧ wr.ownsRow w1.heap.size 54 1 (.slice xo ks.length xc) ks.length (L.map fun z => .int .i64 z) ∧ Hid (rs2 ks (cellAt xs) k j)) (fun i _ => ks.length - (intOf i).toNat)
        case atStart => exact ⟨0, Nat.zero_le _, rfl, b2, hO2, HT⟩
        case round =>
          obtain ⟨j, hj, rfl, hby, hox, HTJ⟩ := hrel
          obtain ⟨p0, p1, p2, p3⟩ := (s1.up hby).cells
          by_cases hlt : j < ks.length
          · obtain ⟨g, rfl, hg⟩ := hxp (by intro e; have := HLL.out; rw [e] at this; simp at this; omega)
            obtain ⟨b, off, rfl, hc⟩ := (hiz1.up hby) (by intro e; subst e; simp at hlt)
            have hcq := hc j hlt
            obtain ⟨q, hqe⟩ : ∃ q, q = ks.getD j 0 := ⟨_, rfl⟩
            rw [← hqe] at hcq
            obtain ⟨d, hde⟩ : ∃ d, d = L.getD j 0 := ⟨_, rfl⟩
            have hdr := dig_rng HK.out hlt (k : Int)
            rw [← HL.out, ← hde] at hdr
            obtain ⟨hd0, hd3⟩ := hdr
            have hcell := hox.cellAt j (by omega)
            have hfr := hox.frozenAt j
            rw [List.getElem?_map, getD_eq (by rw [HLL.out]; exact hlt) 0, ← hde, Option.map_some] at hcell
            have hit := fun w => is_any q (d + 1) w
            cases hp : isP q (d + 1) with
            | false =>
              rw [hp] at hit
              have hns := step_no HK.out hlt (n := k) (by rw [← HL.out, ← hde, ← hqe]; exact hp)
              have HNX : Hid (rs2 ks (cellAt xs) k (j + 1)) := rs2_more HTJ.out (fun h => absurd h hns)
              clear hde hqe hc hp hns hc1 hiz1 s1 HTJ HT HR hxp
              go_wp2_with fail
              go_quiet ((go_at_call 36; exact Calls.quiet_of_same (hit _)))
              go_wp2
              go_roundw
              case rel => exact ⟨j + 1, by omega, by go_num, below_drewN hby _, hox, HNX⟩
              case measure => simp [intOf]; omega
            | true =>
              rw [hp] at hit
              obtain ⟨f1, f2, f3⟩ := step_tup HE.out hlt HKP.out (by rw [← HL.out, ← hde, ← hqe]; exact hp)
              rw [← HL.out, ← hde] at f1 f2
              have hS1 := prodT_pos (okTs_split HK.out (j + 1)).2
              have hin := step_in HK.out hlt HKP.out f3
              rw [← HN.out] at hin
              obtain ⟨V, hV⟩ : ∃ V : Nat, (k : Int) + prodT (ks.drop (j + 1)) = (V : Int) := ⟨((k : Int) + prodT (ks.drop (j + 1))).toNat, by omega⟩
              have hVs : V = k + (prodT (ks.drop (j + 1))).toNat := by omega
              rw [hV] at f2 hin
              have hVN : V < N := by omega
              have hup : cellAt xs k ≤ cellAt xs V → upAt ks (cellAt xs) j k := fun h _ => by rw [← hVs]; exact h
              have hnu : cellAt xs V < cellAt xs k → risS ks N (cellAt xs) = false := fun h => ris_no hlt hkl (fun hu => by have := hu f3; rw [← hVs] at this; omega)
              have HUP : Hid (cellAt xs k ≤ cellAt xs V → upAt ks (cellAt xs) j k) := hup
              have HNU : Hid (cellAt xs V < cellAt xs k → risS ks N (cellAt xs) = false) := hnu
              obtain ⟨L1, hL1⟩ : ∃ L1, L1 = L.set j (d + 1) := ⟨_, rfl⟩
              rw [← hL1] at f1 f2
              have hL1l : L1.length = ks.length := by rw [hL1, List.length_set, HLL.out]
              have hm1 : (L.map fun z => Value.int .i64 z).set j (.int .i64 (d + 1)) = L1.map fun z => Value.int .i64 z := by rw [hL1, List.map_set]
              have hm2 : (L1.map fun z => Value.int .i64 z).set j (.int .i64 d) = L.map fun z => Value.int .i64 z := by
                rw [hL1, ← List.map_set, List.set_set, hde, List.getD_eq_getElem?_getD, List.getElem?_eq_getElem (by rw [HLL.out]; exact hlt)]
                simp
              have hgd : L1.getD j 0 = d + 1 := by
                rw [hL1, List.getD_eq_getElem?_getD, List.getElem?_set_self (by rw [HLL.out]; exact hlt)]
                rfl
              have HM1 : Hid ((L.map fun z => Value.int .i64 z).set j (.int .i64 (d + 1)) = L1.map fun z => Value.int .i64 z) := hm1
              have HM2 : Hid ((L1.map fun z => Value.int .i64 z).set j (.int .i64 d) = L.map fun z => Value.int .i64 z) := hm2
              have HGD : Hid (L1.getD j 0 = d + 1) := hgd
              have HL1 : Hid (L1.length = ks.length) := hL1l
              have HF1 : Hid (numE ks L1 = 0) := f1
              have HF2 : Hid (numV ks L1 = (V : Int)) := f2
              clear hde hqe hc hp f1 f2 f3 hS1 hin hV hVs hup hnu hL1 hL1l hm1 hm2 hgd hxp
              go_wp2_with fail
              go_quiet ((go_at_call 36; exact Calls.quiet_of_same (hit _)))
              have hy2 : Below w1.heap.size w1 (wr.drewN nq) := below_drewN hby nq
              have ho2 : (wr.drewN nq).ownsRow w1.heap.size 54 1 (.slice (some ⟨g, 0, none⟩) ks.length xc) ks.length (L.map fun z => .int .i64 z) := hox
              have hcell2 : (wr.drewN nq).cell? ⟨g, j, none⟩ = some (.int .i64 d) := hcell
              have hfr2 : (wr.drewN nq).frozen? ⟨g, j, none⟩ = false := hfr
              clear hby hox hcell hfr p0 p1 p2 p3 hcq hit
              generalize wr.drewN nq = wq at *
              have hst := (ho2.stored j (.int .i64 (d + 1))).1
              rw [HM1.out] at hst
              have by1 : Below w1.heap.size w1 (wq.setCell ⟨g, j, none⟩ (.int .i64 (d + 1))) := hy2.setCell hg _
              obtain ⟨yo, yc, hye, hyi, _, _⟩ := own_iz hst HL1.out.symm
              simp only [Value.slice.injEq] at hye
              obtain ⟨rfl, hlx, rfl⟩ := hye
              clear hlx
              have hnm := rnumber_any ks L1 _ _ ca xc _ (hiz1.up by1) hyi hl1 (by rw [HL1.out]; exact hl1)
              rw [HF1.out, HF2.out, HL1.out] at hnm
              obtain ⟨p0, p1, p2, p3⟩ := (s1.up by1).cells
              obtain ⟨z0, z1, z2, z3⟩ := (s1.up hy2).cells
              have HST : Hid ((wq.setCell ⟨g, j, none⟩ (.int .i64 (d + 1))).ownsRow w1.heap.size 54 1 (.slice (some ⟨g, 0, none⟩) ks.length xc) ks.length (L1.map fun z => .int .i64 z)) := hst
              clear hyi ho2 hst
              go_wp2_with fail
              refine hnm.mono ?_
              rintro e w5 ⟨rfl, hb5⟩
              clear p0 p1 p2 p3 z0 z1 z2 z3 hcell2 hfr2 hnm
              have ho5 := owns_up HST.out hb5
              have by5 := Below.thn by1 hb5
              clear by1 hb5 hy2 HST
              have hcell5 := ho5.cellAt j (by omega)
              have hfr5 := ho5.frozenAt j
              rw [List.getElem?_map, getD_eq (by rw [HL1.out]; exact hlt) 0, HGD.out, Option.map_some] at hcell5
              have hst5 := (ho5.stored j (.int .i64 d)).1
              rw [HM2.out] at hst5
              have by6 : Below w1.heap.size w1 (w5.setCell ⟨g, j, none⟩ (.int .i64 d)) := by5.setCell hg _
              obtain ⟨bc, offc, rfl, hcc⟩ := hc1 _ by6 k hkl
              have ha1 := hcc k hkl
              have ha2 := hcc V hVN
              obtain ⟨y1, hy1⟩ : ∃ y, y = cellAt xs k := ⟨_, rfl⟩
              obtain ⟨y2, hy2⟩ : ∃ y, y = cellAt xs V := ⟨_, rfl⟩
              rw [← hy1] at ha1
              rw [← hy2] at ha2
              have HO6 : Hid ((w5.setCell ⟨g, j, none⟩ (.int .i64 d)).ownsRow w1.heap.size 54 1 (.slice (some ⟨g, 0, none⟩) ks.length xc) ks.length (L.map fun z => .int .i64 z)) := hst5
              have HB6 : Hid (Below w1.heap.size w1 (w5.setCell ⟨g, j, none⟩ (.int .i64 d))) := by6
              clear ho5 by5 hst5 by6 hcc hc1 hiz1 s1
              by_cases hlt2 : y2 < y1
              · have hrf : r = false := by rw [HR.out]; exact HNU.out (by rw [← hy1, ← hy2]; exact hlt2)
                subst hrf
                have hd2 : decide ((y2 : Int) < (y1 : Int)) = true := decide_eq_true (by omega)
                clear hy1 hy2 HR HTJ HT
                go_wp2_with fail
                go_quiet (fail)
                go_wp2
                go_ret2
                exact ⟨rfl, below_drewN (Below.thn b1 HB6.out) _⟩
              · have hd2 : decide ((y2 : Int) < (y1 : Int)) = false := decide_eq_false (by omega)
                have HNX : Hid (rs2 ks (cellAt xs) k (j + 1)) := rs2_more HTJ.out (HUP.out (by rw [← hy1, ← hy2]; omega))
                clear hy1 hy2 HR HTJ HT
                go_wp2_with fail
                go_quiet (fail)
                go_wp2
                go_roundw
                case rel => exact ⟨j + 1, by omega, by go_num, below_drewN HB6.out _, HO6.out, HNX⟩
                case measure => simp [intOf]; omega
          · obtain rfl : j = ks.length := by omega
            have HNX : Hid (rs2 ks (cellAt xs) (k + 1) 0) := rs2_row HTJ.out
            clear hc1 hiz1 s1 HTJ HT HR hxp
            go_wp2
            go_roundw
            case rel => exact ⟨k + 1, by omega, by go_num, hby, HNX⟩
            case measure => simp [intOf]; omega
      · obtain rfl : k = N := by omega
        have hrt : r = true := by rw [HR.out]; exact rs2_end HT.out
        subst hrt
        have b3 := Below.thn b1 hbz
        clear HR HT s1 hc1 hiz1
        go_wp2
        go_ret2
        exact ⟨rfl, b3⟩
  · have hof : okTab ks t n xs = false := by simpa using hok
    rw [hof] at hpt ⊢
    simp only [Bool.false_eq_true, if_false, Bool.false_and]
    unfold PtsEnd at hpt
    clear hok hof
    go_enter Try.func28, Try.ntmps28
    go_wp2_with fail
    refine hpt.mono ?_
    rintro e w1 ⟨v, rfl, hv, _, hb⟩
    clear p0 p1 p2 p3
    have s1 := s0.up hb
    have h1 := h0.up hb
    have b1 := Below.thn b0 hb
    obtain ⟨p0, p1, p2, p3⟩ := s1.cells
    clear s0 b0 hb h hpt
    go_wp2
    go_ret2
    exact ⟨rfl, b1⟩
end Go.Proofs.Ytiikkbofcccjfaa
