/-
  The walk of ShowKeep.
-/
import Derived.Test.YtflennpocpbbpaaDoorUY
namespace Go.Proofs.YtflennpocpbbpaaDoor
open Go.RowKit
set_option maxRecDepth 100000

/-- Which of the two a read was. -/
theorem rd_fork {l : List UInt8} {f B : Nat} {e : Ending} {w' : World} (h : rdV l f B e w') :
    (∃ ms gs j ao c, l.length ≤ 32768 ∧ cut rdN l 0 = .ok ms ∧ progL (mf ms) LW5 f [] 0 = .ok gs j ∧ e = .returned (.tuple #[.agg #[.slice ao gs.length c], .bool true]) ∧ FlW w' (fun b => B ≤ b) ao gs) ∨ e = .returned (.tuple #[.agg #[.slice none 0 0], .bool false]) := by
  rcases h with h | ⟨_, h⟩
  · exact .inl h
  · exact .inr h
/-- A text that was read is read so again. -/
theorem rd_again {l : List UInt8} {f B : Nat} {e : Ending} {w' : World} {ms : List Mk} {gs : List Fn1} {j : Nat} (h : rdV l f B e w') (hl : l.length ≤ 32768) (hc : cut rdN l 0 = .ok ms) (hp : progL (mf ms) LW5 f [] 0 = .ok gs j) :
    ∃ ao c, e = .returned (.tuple #[.agg #[.slice ao gs.length c], .bool true]) ∧ FlW w' (fun b => B ≤ b) ao gs := by
  rcases h with ⟨ms2, gs2, j2, ao, c, _, h2, h3, h4, h5⟩ | ⟨h, _⟩
  · rw [hc] at h2
    cases h2
    rw [hp] at h3
    cases h3
    exact ⟨ao, c, h4, h5⟩
  · exact absurd ⟨hl, hc, hp⟩ (h _ _ _)

set_option maxHeartbeats 8000000 in
theorem showKeep_any (ao : Option Addr) (cap : Nat) (l : List UInt8) (hcap : l.length ≤ cap) (w : World) (hTab : Tab w) (hT : Bd w ao l) :
    Calls Tryd.prog 4 #[.slice ao l.length cap] w fun e w' => e = .returned (.bool true) ∧ Below w.heap.size w w' := by
  obtain ⟨F, hF⟩ : ∃ F, F = 12 * (l.length + 1) + 9 := ⟨_, rfl⟩
  have hfu : ∀ ms, cut rdN l 0 = .ok ms → progL (mf ms) LW5 F [] 0 ≠ .out := fuel_ok l LW5 F (by omega)
  have HF : Hid (F = 12 * (l.length + 1) + 9) := hF
  clear hF
  go_enter Tryd.func4, Tryd.ntmps4
  go_wp2_with fail
  refine (awake5_any w hTab).mono ?_
  rintro e w1 ⟨rfl, hb1⟩
  have m2 := read5_any ao cap l hcap w1 (hT.up hb1) F hfu
  go_wp2_with fail
  refine m2.mono ?_
  rintro e w2 ⟨hb2, hrd⟩
  have hB2 := Below.thn hb1 hb2
  clear m2 hb1 hb2
  rcases rd_fork hrd with ⟨ms, gs, j, a2, c2, hl, hc, hp, rfl, hfl⟩ | rfl
  · have hok : PrgOk gs := prgOk hl (by rw [HF.out]; exact Nat.le_refl _) hc hp
    have hb3 := below_alloc w2 (.cells #[.slice a2 gs.length c2] 26)
    have hP3 := Bk.new w2 26 #[.slice a2 gs.length c2]
    generalize hW3 : w2.alloc (.cells #[.slice a2 gs.length c2] 26) = W3 at *
    have HB3 : Hid (Below w.heap.size w W3) := Below.thn hB2 hb3
    have HP3 : Hid (Bk W3 w2.heap.size 26 [.slice a2 gs.length c2]) := hP3
    have HX3 : Hid (FlW W3 (fun b => w1.heap.size ≤ b) a2 gs) := hfl.up hb3
    have HOK : Hid (PrgOk gs) := hok
    have HPR : Hid (progL (mf ms) LW5 F [] 0 = .ok gs j) := hp
    have HCU : Hid (cut rdN l 0 = .ok ms) := hc
    have m4 := read5_any ao cap l hcap W3 (hT.up HB3.out) F hfu
    clear hfl hb3 hP3 hok hp hc hrd hB2
    go_wp2_with fail
    first | rw [hW3] | skip
    clear hW3
    refine m4.mono ?_
    rintro e w4 ⟨hb4, hrd4⟩
    obtain ⟨a4, c4, rfl, hfl4⟩ := rd_again hrd4 hl HCU.out HPR.out
    have hb5 := below_alloc w4 (.cells #[.slice a4 gs.length c4] 26)
    have hQ5 := Bk.new w4 26 #[.slice a4 gs.length c4]
    generalize hW5 : w4.alloc (.cells #[.slice a4 gs.length c4] 26) = W5 at *
    have hb45 := Below.thn hb4 hb5
    have HB5 : Hid (Below w.heap.size w W5) := Below.thn HB3.out hb45
    have HP5 : Hid (Bk W5 w2.heap.size 26 [.slice a2 gs.length c2]) := HP3.out.up hb45
    have HQ5 : Hid (Bk W5 w4.heap.size 26 [.slice a4 gs.length c4]) := hQ5
    have HX5 : Hid (FlW W5 (fun b => w1.heap.size ≤ b) a2 gs) := HX3.out.up hb45
    have HY5 : Hid (FlW W5 (fun b => W3.heap.size ≤ b) a4 gs) := hfl4.up hb5
    have p5 : W5.cell? ⟨w2.heap.size, 0, none⟩ = some (.slice a2 gs.length c2) := HP5.out.cell 0
    have m6 := showProgram_ok (tab_keep hTab HB5.out) HOK.out (c := c2) HX5.out
    clear m4 hb4 hrd4 hfl4 hb5 hQ5 hb45
    go_wp2_with fail
    first | rw [hW5] | skip
    clear hW5
    refine m6.mono ?_
    rintro e w6 ⟨rfl, hb6⟩
    have HB6 : Hid (Below w.heap.size w w6) := Below.thn HB5.out hb6
    have HP6 : Hid (Bk w6 w2.heap.size 26 [.slice a2 gs.length c2]) := HP5.out.up hb6
    have HQ6 : Hid (Bk w6 w4.heap.size 26 [.slice a4 gs.length c4]) := HQ5.out.up hb6
    have HX6 : Hid (FlW w6 (fun b => w1.heap.size ≤ b) a2 gs) := HX5.out.up hb6
    have HY6 : Hid (FlW w6 (fun b => W3.heap.size ≤ b) a4 gs) := HY5.out.up hb6
    have p6 : w6.cell? ⟨w2.heap.size, 0, none⟩ = some (.slice a2 gs.length c2) := HP6.out.cell 0
    have m7 := showProgram_ok (tab_keep hTab HB6.out) HOK.out (c := c2) HX6.out
    clear m6 p5 hb6
    go_wp2_with fail
    refine m7.mono ?_
    rintro e w7 ⟨rfl, hb7⟩
    have HB7 : Hid (Below w.heap.size w w7) := Below.thn HB6.out hb7
    have HP7 : Hid (Bk w7 w2.heap.size 26 [.slice a2 gs.length c2]) := HP6.out.up hb7
    have HQ7 : Hid (Bk w7 w4.heap.size 26 [.slice a4 gs.length c4]) := HQ6.out.up hb7
    have HX7 : Hid (FlW w7 (fun b => w1.heap.size ≤ b) a2 gs) := HX6.out.up hb7
    have HY7 : Hid (FlW w7 (fun b => W3.heap.size ≤ b) a4 gs) := HY6.out.up hb7
    clear m7 p6 hb7
    have hgl : gs.length ≤ 32769 := HOK.out.num
    go_wp2_with fail
    go_loopw [9] (fun i wr => ∃ k : Nat, k ≤ gs.length ∧ i = .int .i64 k ∧ Below w7.heap.size w7 wr) (fun i _ => gs.length - (intOf i).toNat)
    case atStart => exact ⟨0, Nat.zero_le _, rfl, Below.refl _ _⟩
    case round =>
      obtain ⟨k, hkn, rfl, hBr⟩ := hrel
      have pr : wr.cell? ⟨w2.heap.size, 0, none⟩ = some (.slice a2 gs.length c2) := (HP7.out.up hBr).cell 0
      by_cases hlt : k < gs.length
      · obtain ⟨G, es, rfl, _, hr, hx⟩ := (HX7.out.up hBr).body k hlt
        have m8 := showExpr_ok (tab_keep hTab (Below.thn HB7.out hBr)) HOK.out (getD_mem fd gs k hlt) es hx
        obtain ⟨x0, x1, x2, x3, x4, x5, x6, rfl⟩ := list7 hx.len
        have HBR : Hid (Below w7.heap.size w7 wr) := hBr
        clear hx hBr
        go_wp2_with (first
          | refine wpList_loadN rfl 39 (.tmp 39) rfl G (k * 11 + 3) rfl [x0, x1, x2, x3, x4, x5, x6] _ hr Tryd.underE Tryd.infoE ?_)
        refine m8.mono ?_
        rintro e w8 ⟨rfl, hb8⟩
        have HB8 : Hid (Below w7.heap.size w7 w8) := Below.thn HBR.out hb8
        clear m8 hb8 hr pr
        go_wp2_with fail
        go_roundw
        case rel => exact ⟨k + 1, by omega, by go_num, HB8.out⟩
        case measure => simp [intOf]; omega
      · have hke : k = gs.length := by omega
        subst hke
        have qr : wr.cell? ⟨w4.heap.size, 0, none⟩ = some (.slice a4 gs.length c4) := (HQ7.out.up hBr).cell 0
        have m9 := same4_any true gs gs (fun g hg => by have := HOK.out.sz g hg; omega) (fun g hg => by have := HOK.out.pms g hg; omega) (by omega) (LiR.refl (fun g => FnR.refl (fun _ _ => rfl) g) gs) wr _ _ a2 a4 c2 c4 (HX7.out.up hBr) (HY7.out.up hBr)
        have HBR : Hid (Below w.heap.size w wr) := Below.thn HB7.out hBr
        have hqq : ((bs (prT gs)).toList == (bs (prT gs)).toList) = true := by simp
        clear hBr
        go_wp2_with fail
        refine m9.mono ?_
        rintro e w9 ⟨rfl, hb9⟩
        have HB9 : Hid (Below w.heap.size w w9) := Below.thn HBR.out hb9
        clear m9 hb9
        go_wp2_with fail
        go_ret
        exact ⟨rfl, HB9.out⟩
  · have hb3 := below_alloc w2 (.cells #[.slice none 0 0] 26)
    have HB3 : Hid _ := Below.thn hB2 hb3
    clear hb3 hB2
    go_wp2_with fail
    go_ret
    exact ⟨rfl, HB3.out⟩
end Go.Proofs.YtflennpocpbbpaaDoor
