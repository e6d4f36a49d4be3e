/-
  The walk of TypesBodies.
-/
import Derived.Test.YtnpigleolifcaaaUs
import Derived.Test.YtnpigleolifcaaaUr
import Derived.Test.YtnpigleolifcaaaUp
import Derived.Test.YtnpigleolifcaaaUu
namespace Go.Proofs.Ytnpigleolifcaaa
open Go.RowKit
set_option maxRecDepth 100000

/-- The document's Check of names of what was read. -/
theorem check06_ok {w : World} {A : Nat → Prop} {ao : Option Addr} {gs : List Fn1} {c : Nat} (ho : PrgOk gs) (hF : FlW w A ao gs) :
    Calls Try.prog 12 #[.agg #[.slice ao gs.length c]] w fun e w' => e = .returned (.agg #[.int .i64 (lsP (ftP gs)).1, .int .i64 (lsP (ftP gs)).2]) ∧ Below w.heap.size w w' :=
  check06_any (A := fun b => A b ∧ b < w.heap.size) (hF.imp fun b h hl => ⟨h, hl⟩) (fun _ h => h.2) (fun g hg => by have := ho.sz g hg; omega) (fun g hg => by have := ho.pms g hg; omega) (by have := ho.num; omega)
/-- Which of the two a read was. -/
theorem rd_fork {l : List UInt8} {f B : Nat} {e : Ending} {w' : World} (h : rdV l f B e w') :
    (∃ ms gs j ao c, l.length ≤ 32768 ∧ cut rdN l 0 = .ok ms ∧ progL (mf ms) LW5 f [] 0 = .ok gs j ∧ e = .returned (.tuple #[.agg #[.slice ao gs.length c], .bool true]) ∧ FlW w' (fun b => B ≤ b) ao gs) ∨ e = .returned (.tuple #[.agg #[.slice none 0 0], .bool false]) := by
  rcases h with h | ⟨_, h⟩
  · exact .inl h
  · exact .inr h
/-- A body has its function's type. -/
def fitB (gs : List Fn1) (g : Fn1) : Bool := decide ((ofP (funF gs) g.pms g.body).2 = 0 ∧ (ofP (funF gs) g.pms g.body).1 = g.ty)
def allB (gs : List Fn1) (k : Nat) : Bool := (gs.take k).all (fitB gs)
theorem allB_step (gs : List Fn1) (k : Nat) (h : k < gs.length) : allB gs (k + 1) = (allB gs k && fitB gs (gs.getD k fd)) := by
  unfold allB
  rw [List.take_succ_eq_append_getElem h, List.all_append, List.getD_eq_getElem?_getD, List.getElem?_eq_getElem h]
  simp
theorem ltE_wf {x : Ex} (hw : lnE x) {u : Int} (hu : u = 1 ∨ u = 2 ∨ u = 3) : lnE (ltE [122, 122] u x) := by
  unfold ltE lnE
  rw [wfE_mk]
  refine ⟨.bind (.inr rfl) (by decide) hu, ?_⟩
  rw [wfL_cons, wfL_cons, wfE_mk]
  exact ⟨hw, ⟨.var (by decide), wfL_nil⟩, wfL_nil⟩
theorem ltE_sz (z : List UInt8) (u : Int) (x : Ex) : szE (ltE z u x) = szE x + 2 := by
  unfold ltE
  rw [szE_mk, szL_cons, szL_cons, szL_nil, szE_mk, szL_nil]

/-- The strict let of a body. -/
theorem let_of {ff : List UInt8 → Option Fn1} {ps : List Pm} {x : Ex} (hw : lnE x) {u : Int} (hu : u = 1 ∨ u = 2 ∨ u = 3) :
    ((ofP ff ps (ltE [122, 122] u x)).2 = 0 ↔ (ofP ff ps x).2 = 0 ∧ (ofP ff ps x).1 = u) ∧ ((ofP ff ps (ltE [122, 122] u x)).2 = 0 → (ofP ff ps (ltE [122, 122] u x)).1 = u) := by
  have h1 := ofP_iff (ff := ff) (ps := ps) hw hu
  rcases ofP_cases (ff := ff) (ps := ps) (x := ltE [122, 122] u x) with ⟨a, b, c⟩ | ⟨a, b⟩
  · rw [ltE_ok] at c
    rw [a]
    exact ⟨⟨fun _ => h1.2 c.1, fun _ => rfl⟩, fun _ => c.2⟩
  · have e : (ofP ff ps (ltE [122, 122] u x)).2 = 34 := by rw [a]
    rw [e]
    refine ⟨⟨fun h => absurd h (by decide), fun h => ?_⟩, fun h => absurd h (by decide)⟩
    exact absurd ((ltE_ok ff _ [122, 122] u u x).2 ⟨h1.1 h, rfl⟩) (b u hu)
theorem all_ty {gs : List Fn1} (hs : (lsP (ftP gs)).1 = 0) (hln : ∀ g ∈ gs, lnF g) (hty : ∀ g ∈ gs, g.ty = 1 ∨ g.ty = 2 ∨ g.ty = 3) : ((tyP gs).1 == 0) = allB gs gs.length := by
  have h := tyP_ok gs (scP_no hs)
  unfold allB
  rw [List.take_length]
  have h2 : (∀ g ∈ gs, okE (funF gs) (bindT (fun _ => 0) g.pms) g.body g.ty) ↔ gs.all (fitB gs) = true := by
    rw [List.all_eq_true]
    constructor
    · intro k g hg
      exact decide_eq_true ((ofP_iff (hln g hg).body (hty g hg)).2 (k g hg))
    · intro k g hg
      exact (ofP_iff (hln g hg).body (hty g hg)).1 (of_decide_eq_true (k g hg))
  cases e : gs.all (fitB gs) with
  | true => rw [h.2 (h2.2 e)]; rfl
  | false =>
    have : ¬ (tyP gs).1 = 0 := fun k => by rw [h2.1 (h.1 k)] at e; cases e
    simpa using this
theorem fld0 (y a : Int) (w : World) : (Instr.field 31 (.agg #[.int .i64 y, .int .i64 a]) 0).run Try.prog w = .ok (.int .i64 y) w := by kernel_rfl
/-- The strict let, as it is laid. -/
theorem let_ex {w : World} {A : Nat → Prop} {x : Ex} {x0 x1 x2 x3 x4 x5 x6 : Value} (hx : ExW w A x [x0, x1, x2, x3, x4, x5, x6]) {bl : Nat}
    (hb : Bk w bl 40 [x0, x1, x2, x3, x4, x5, x6, .int .i64 6, .string ⟨#[122, 122]⟩, .string ⟨#[]⟩, .int .i64 0, .complex .f64 0 0, .slice none 0 0, .int .i64 0]) (u : Int) :
    ExW w (fun _ => True) (ltE [122, 122] u x) [.int .i64 22, .string ⟨#[122, 122]⟩, .string ⟨#[]⟩, .int .i64 u, .complex .f64 0 0, .slice (some ⟨bl, 0, none⟩) 2 2, .int .i64 0] := by
  have h2 : ExW w (fun _ => True) (.mk 6 [122, 122] [] 0 0 0 [] 0) [.int .i64 6, .string ⟨#[122, 122]⟩, .string ⟨#[]⟩, .int .i64 0, .complex .f64 0 0, .slice none 0 0, .int .i64 0] := .mk (.nil (ao := none))
  have r1 : w.rangeAt bl 0 [x0, x1, x2, x3, x4, x5, x6] := fun j v hj => by
    rw [Nat.zero_add]
    refine (hb.cell j).trans ?_
    have := (List.getElem?_eq_some_iff.1 hj).1
    rw [← hj]
    exact List.getElem?_append_left (l₁ := [x0, x1, x2, x3, x4, x5, x6]) this
  have r2 : w.rangeAt bl (0 + 7) [.int .i64 6, .string ⟨#[122, 122]⟩, .string ⟨#[]⟩, .int .i64 0, .complex .f64 0 0, .slice none 0 0, .int .i64 0] := fun j v hj => by
    refine (hb.cell (0 + 7 + j)).trans ?_
    rw [← hj]
    exact List.getElem?_append_right (l₁ := [x0, x1, x2, x3, x4, x5, x6]) (by simp) |>.trans (by congr 1; simp)
  exact .mk (.cons trivial r1 (hx.imp fun _ _ _ => trivial) (.cons trivial r2 h2 .nil))

set_option maxHeartbeats 16000000 in
theorem typesBodies_any (ao : Option Addr) (cap : Nat) (l : List UInt8) (hcap : l.length ≤ cap) (w : World) (hT : Bd w ao l) :
    Calls Try.prog 4 #[.slice ao l.length cap] w fun e w' => e = .returned (.bool true) ∧ Below w.heap.size w w' := by
  obtain ⟨F, hF⟩ : ∃ F, F = 12 * (l.length + 1) + 9 := ⟨_, rfl⟩
  have hfu : ∀ ms, cut rdN l 0 = .ok ms → progL (mf ms) LW5 F [] 0 ≠ .out := fuel_ok l LW5 F (by omega)
  have HF : Hid (F = 12 * (l.length + 1) + 9) := hF
  clear hF
  go_enter Try.func4, Try.ntmps4
  go_wp2_with fail
  refine (awake7_any w).mono ?_
  rintro e w1 ⟨rfl, hb1⟩
  have m2 := read5_any ao cap l hcap w1 (hT.up hb1) F hfu
  go_wp2_with fail
  refine m2.mono ?_
  rintro e w2 ⟨hb2, hrd⟩
  have hB2 := Below.thn hb1 hb2
  clear m2 hb1 hb2
  rcases rd_fork hrd with ⟨ms, gs, j, a2, c2, hl, hc, hp, rfl, hfl⟩ | rfl
  · have hok : PrgOk gs := prgOk hl (by rw [HF.out]; exact Nat.le_refl _) hc hp
    have HLN : Hid (∀ g ∈ gs, lnF g) := prgLn hl hc hp
    have hb3 := below_alloc w2 (.cells #[.slice a2 gs.length c2] 26)
    have hP3 := Bk.new w2 26 #[.slice a2 gs.length c2]
    have HB3 : Hid (Below w.heap.size w _) := Below.thn hB2 hb3
    have hf3 := hfl.up hb3
    have HOK : Hid (PrgOk gs) := hok
    go_upto_region 4 with fail
    generalize hW3 : w2.alloc (.cells #[.slice a2 gs.length c2] 26) = W3 at *
    clear hW3 hfl hb3 hok hp hc hrd hB2
    have p3 : W3.cell? ⟨w2.heap.size, 0, none⟩ = some (.slice a2 gs.length c2) := hP3.cell 0
    have m4 := check06_ok (c := c2) HOK.out hf3
    obtain ⟨⟨qy, qa⟩, hq⟩ : ∃ q, q = lsP (ftP gs) := ⟨_, rfl⟩
    have HQ : Hid ((qy, qa) = lsP (ftP gs)) := hq
    rw [← hq] at m4
    clear hq
    dsimp only at m4
    go_wp2_with fail
    refine m4.mono ?_
    rintro e w4 ⟨rfl, hb4⟩
    have fl4 := fld0 qy qa w4
    have HB4 : Hid (Below w.heap.size w w4) := Below.thn HB3.out hb4
    have hP4 := hP3.up hb4
    have hf4 := hf3.up hb4
    clear m4 p3 hP3 hf3 hb4
    by_cases hy : qy = 0
    · subst hy
      have HSC : Hid ((lsP (ftP gs)).1 = 0) := by rw [← HQ.out]; exact rfl
      have hgl : gs.length ≤ 32769 := HOK.out.num
      have p4 : w4.cell? ⟨w2.heap.size, 0, none⟩ = some (.slice a2 gs.length c2) := hP4.cell 0
      clear HQ
      go_wp2_with fail
      go_loopw [5, 6] (fun v i wr => ∃ k : Nat, k ≤ gs.length ∧ i = .int .i64 k ∧ v = .bool (allB gs k) ∧ Below w4.heap.size w4 wr) (fun _ i _ => gs.length - (intOf i).toNat)
      case atStart => exact ⟨0, Nat.zero_le _, rfl, rfl, Below.refl _ _⟩
      case round =>
        obtain ⟨k, hkn, rfl, rfl, hBk⟩ := hrel
        have hPk := hP4.up hBk
        have hfk := hf4.up hBk
        have hwk := hBk.size
        have pk : wr.cell? ⟨w2.heap.size, 0, none⟩ = some (.slice a2 gs.length c2) := hPk.cell 0
        by_cases hlt : k < gs.length
        · have HST : Hid (allB gs (k + 1) = (allB gs k && fitB gs (gs.getD k fd))) := allB_step gs k hlt
          have HFB : Hid (fitB gs (gs.getD k fd) = decide ((ofP (funF gs) (gs.getD k fd).pms (gs.getD k fd).body).2 = 0 ∧ (ofP (funF gs) (gs.getD k fd).pms (gs.getD k fd).body).1 = (gs.getD k fd).ty)) := rfl
          have hmem : gs.getD k fd ∈ gs := by rw [List.getD_eq_getElem?_getD, List.getElem?_eq_getElem hlt]; exact List.getElem_mem hlt
          have hsG := HOK.out.sz _ hmem
          have hpG := HOK.out.pms _ hmem
          have HlG : Hid (lnF (gs.getD k fd)) := HLN.out _ hmem
          obtain ⟨G, vs, rfl, _, hv, hxv⟩ := hfk.at k hlt
          obtain ⟨q, hq⟩ : ∃ q, q = gs.getD k fd := ⟨_, rfl⟩
          rw [← hq] at hxv hsG hpG HFB HST HlG
          clear hmem hq
          obtain ⟨gn, ps, gt, gb, gp⟩ := q
          dsimp only at hsG hpG HFB
          obtain ⟨ap, cp, es, rfl, hp1, hx1⟩ := hxv
          dsimp only at hp1 hx1 hv
          obtain ⟨x0, x1, x2, x3, x4, x5, x6, rfl⟩ := list7 hx1.len
          obtain ⟨d0, d1, d2, d3, d4, d5, d6, d7, d8, d9, d10⟩ := range11 (show wr.rangeAt G (k * 11) [_, _, _, x0, x1, x2, x3, x4, x5, x6, _] from hv)
          have hZ := Bk.new wr 42 #[.string ⟨#[]⟩, .slice none 0 0, .int .i64 0, .int .i64 0, .string ⟨#[]⟩, .string ⟨#[]⟩, .int .i64 0, .complex .f64 0 0, .slice none 0 0, .int .i64 0, .int .i64 0]
          have hone : ∀ v ∈ [.string (bs gn), .slice ap ps.length cp, .int .i64 gt, x0, x1, x2, x3, x4, x5, x6, .int .i64 gp], v.oneCell' = true := by
            have := hx1.one
            simp only [List.mem_cons, List.not_mem_nil, or_false] at this ⊢
            rintro v (rfl | rfl | rfl | h | h | h | h | h | h | h | rfl)
            · rfl
            · rfl
            · rfl
            all_goals first | rfl | exact this v (by simp [h])
          clear hv
          go_upto_region 11 with (refine wpList_storeN rfl 42 (.tmp 7) (.tmp 41) rfl wr.heap.size 0 [.string (bs gn), .slice ap ps.length cp, .int .i64 gt, x0, x1, x2, x3, x4, x5, x6, .int .i64 gp] rfl rfl hZ (Nat.le_refl 11) Try.infoF11 hone ?_; intro w5 hV5 hO5)
          have hV5 : Bk w5 wr.heap.size 42 [.string (bs gn), .slice ap ps.length cp, .int .i64 gt, x0, x1, x2, x3, x4, x5, x6, .int .i64 gp] := hV5
          have hb5 : Below wr.heap.size wr w5 := (below_alloc wr _).trans (hO5.below (Nat.le_refl _))
          have hx5 := hx1.up hb5
          have hp5 := hp1.up hb5
          have hf5 := hfk.up hb5
          have hP5 := hPk.up hb5
          have HB5 : Hid (Below w4.heap.size w4 w5) := Below.thn hBk hb5
          clear hO5 hZ hone d0 d1 d2 d3 d4 d5 d6 d7 d8 d9 d10 hx1 hp1 hfk hPk hb5 hBk pk
          have p5 : w5.cell? ⟨w2.heap.size, 0, none⟩ = some (.slice (some ⟨G, 0, none⟩) gs.length c2) := hP5.cell 0
          obtain ⟨f0, f1, f2, f3, f4, f5, f6, f7, f8, f9, f10⟩ := Bk.eleven (show Bk w5 wr.heap.size 42 [_, _, _, _, _, _, _, _, _, _, _] from hV5)
          have m5 := of_ok (c := c2) (cap := cp) HOK.out HLN.out hf5 hp5.q (fun p h => (HlG.out.pms p h).1) (by omega) hx5 HlG.out.body (by omega)
          have HLT : Hid (∀ u : Int, u = 1 ∨ u = 2 ∨ u = 3 → ((ofP (funF gs) ps (ltE [122, 122] u gb)).2 = 0 ↔ (ofP (funF gs) ps gb).2 = 0 ∧ (ofP (funF gs) ps gb).1 = u) ∧ ((ofP (funF gs) ps (ltE [122, 122] u gb)).2 = 0 → (ofP (funF gs) ps (ltE [122, 122] u gb)).1 = u)) := fun u hu => let_of HlG.out.body hu
          obtain ⟨⟨t0, e0⟩, ht⟩ : ∃ t, t = ofP (funF gs) ps gb := ⟨_, rfl⟩
          rw [← ht] at m5 HFB HLT
          dsimp only at m5 HFB HLT
          clear ht
          obtain ⟨bV, hbV⟩ : ∃ bV, bV = wr.heap.size := ⟨_, rfl⟩
          rw [← hbV] at hV5 f0 f1 f2 f3 f4 f5 f6 f7 f8 f9 f10 ⊢
          clear hbV
          go_wp2_with fail
          refine m5.mono ?_
          rintro e w6 ⟨rfl, hb6⟩
          have hx6 := hx5.up hb6
          have hp6 := hp5.up hb6
          have hf6 := hf5.up hb6
          have hP6 := hP5.up hb6
          have hV6 := hV5.up hb6
          have HB6 : Hid (Below w4.heap.size w4 w6) := Below.thn HB5.out hb6
          have v2 : w6.cell? ⟨bV, 2, none⟩ = some (.int .i64 gt) := hV6.cell 2
          clear m5 hb6 hx5 hp5 hf5 hP5 hV5 p5 f0 f1 f2 f3 f4 f5 f6 f7 f8 f9 f10 HB5
          go_upto_region 12 with fail
          go_cut [10] (fun v wx => v = .bool (e0 == 0 && t0 == gt) ∧ w6 = wx)
          case first =>
            by_cases h0 : e0 = 0
            · have g : (e0 == 0) = true := by simpa using h0
              go_wp2_with fail
              go_meet
              case rel => exact ⟨by rw [g, Bool.true_and], rfl⟩
            · have g : (e0 == 0) = false := by simpa using h0
              go_wp2_with fail
              go_meet
              case rel => exact ⟨by rw [g, Bool.false_and], rfl⟩
          case rest =>
            obtain ⟨rfl, rfl⟩ := hcut
            obtain ⟨fb, hfb⟩ : ∃ fb, fb = (e0 == 0 && t0 == gt) := ⟨_, rfl⟩
            have HFC : Hid (fitB gs ⟨gn, ps, gt, gb, gp⟩ = fb) := by
              show _ = _
              rw [HFB.out, hfb]
              by_cases a : e0 = 0 <;> by_cases b : t0 = gt <;> simp [a, b]
            rw [← hfb]
            obtain ⟨ab, hab⟩ : ∃ ab, ab = allB gs k := ⟨_, rfl⟩
            rw [HFC.out, ← hab] at HST
            rw [← hab]
            clear hfb hab v2
            go_upto_region 13 with fail
            go_cut [5] (fun v wx => v = .bool (allB gs (k + 1)) ∧ w6 = wx)
            case first =>
              have e5 : allB gs (k + 1) = (ab && fb) := HST.out
              have HE5 : Hid (allB gs (k + 1) = (ab && fb)) := e5
              clear e5 HST
              cases ab with
              | true =>
                go_wp2_with fail
                go_meet
                case rel => exact ⟨by rw [HE5.out, Bool.true_and], rfl⟩
              | false =>
                go_wp2_with fail
                go_meet
                case rel => exact ⟨by rw [HE5.out, Bool.false_and], rfl⟩
            case rest =>
              obtain ⟨rfl, rfl⟩ := hcut
              obtain ⟨an, han⟩ : ∃ an, an = allB gs (k + 1) := ⟨_, rfl⟩
              have HAN : Hid (an = allB gs (k + 1)) := han
              rw [← han]
              clear han HST
              go_wp2_with fail
              go_loopw [11] (fun v wr => ∃ u : Nat, 1 ≤ u ∧ u ≤ 4 ∧ v = .int .i64 u ∧ Below w6.heap.size w6 wr) (fun v _ => 4 - (intOf v).toNat)
              case atStart => exact ⟨1, by decide, by decide, rfl, Below.refl _ _⟩
              case round =>
                obtain ⟨u, hu1, hu4, rfl, hBu⟩ := hrel
                by_cases hu : u ≤ 3
                · have hxu := hx6.up hBu
                  have hVu := hV6.up hBu
                  have hPu := hP6.up hBu
                  have hfu' := hf6.up hBu
                  have hpu := hp6.up hBu
                  obtain ⟨f0, f1, f2, f3, f4, f5, f6, f7, f8, f9, f10⟩ := Bk.eleven (show Bk wr bV 42 [_, _, _, _, _, _, _, _, _, _, _] from hVu)
                  have hb7 := below_two wr (.cells #[x0, x1, x2, x3, x4, x5, x6, .int .i64 6, .string ⟨#[122, 122]⟩, .string ⟨#[]⟩, .int .i64 0, .complex .f64 0 0, .slice none 0 0, .int .i64 0] 40) (.cells #[.int .i64 0, .string ⟨#[]⟩, .string ⟨#[]⟩, .int .i64 0, .complex .f64 0 0, .slice none 0 0, .int .i64 0] 40)
                  have hL7 := (Bk.new wr 40 #[x0, x1, x2, x3, x4, x5, x6, .int .i64 6, .string ⟨#[122, 122]⟩, .string ⟨#[]⟩, .int .i64 0, .complex .f64 0 0, .slice none 0 0, .int .i64 0]).up (below_alloc _ (.cells #[.int .i64 0, .string ⟨#[]⟩, .string ⟨#[]⟩, .int .i64 0, .complex .f64 0 0, .slice none 0 0, .int .i64 0] 40))
                  have hZ := Bk.newAt (w := wr.alloc (.cells #[x0, x1, x2, x3, x4, x5, x6, .int .i64 6, .string ⟨#[122, 122]⟩, .string ⟨#[]⟩, .int .i64 0, .complex .f64 0 0, .slice none 0 0, .int .i64 0] 40)) (n := wr.heap.size + 1) 40 #[.int .i64 0, .string ⟨#[]⟩, .string ⟨#[]⟩, .int .i64 0, .complex .f64 0 0, .slice none 0 0, .int .i64 0] (by simp)
                  have gu : decide ((u : Int) ≤ 3) = true := by simp; omega
                  go_upto_region 18 with (refine wpList_storeN rfl 40 (.tmp 12) (.tmp 72) rfl (wr.heap.size + 1) 0 [.int .i64 22, .string ⟨#[122, 122]⟩, .string ⟨#[]⟩, .int .i64 u, .complex .f64 0 0, .slice (some ⟨wr.heap.size, 0, none⟩) 2 2, .int .i64 0] rfl rfl hZ (Nat.le_refl 7) Try.infoE (by intro v hv; simp only [List.mem_cons, List.not_mem_nil, or_false] at hv; rcases hv with rfl | rfl | rfl | rfl | rfl | rfl | rfl <;> rfl) ?_; intro w7 hB7 hO7)
                  have hB7' : Bk w7 (wr.heap.size + 1) 40 [.int .i64 22, .string ⟨#[122, 122]⟩, .string ⟨#[]⟩, .int .i64 u, .complex .f64 0 0, .slice (some ⟨wr.heap.size, 0, none⟩) 2 2, .int .i64 0] := hB7
                  have hb7' : Below wr.heap.size wr w7 := hb7.trans (hO7.below (by omega))
                  have hL7' := hL7.oth hO7 (by omega)
                  have hx7 := hxu.up hb7'
                  have hV7 := hVu.up hb7'
                  have hP7 := hPu.up hb7'
                  have hf7 := hfu'.up hb7'
                  have hp7 := hpu.up hb7'
                  have hlx := let_ex hx7 hL7' (u : Int)
                  have hu3 : (u : Int) = 1 ∨ (u : Int) = 2 ∨ (u : Int) = 3 := by omega
                  have m7 := of_ok (c := c2) (cap := cp) HOK.out HLN.out hf7 hp7.q (fun p h => (HlG.out.pms p h).1) (by omega) hlx (ltE_wf HlG.out.body hu3) (by rw [ltE_sz]; omega)
                  have HL3 := HLT.out (u : Int) hu3
                  obtain ⟨⟨gv, ge⟩, hg⟩ : ∃ g, g = ofP (funF gs) ps (ltE [122, 122] (u : Int) gb) := ⟨_, rfl⟩
                  rw [← hg] at m7 HL3
                  dsimp only at m7 HL3
                  have HL3 : Hid ((ge = 0 ↔ e0 = 0 ∧ t0 = (u : Int)) ∧ (ge = 0 → gv = (u : Int))) := HL3
                  have HB7 : Hid (Below w6.heap.size w6 w7) := Below.thn hBu hb7'
                  have q0 : w7.cell? ⟨w2.heap.size, 0, none⟩ = some (.slice (some ⟨G, 0, none⟩) gs.length c2) := hP7.cell 0
                  have q1 : w7.cell? ⟨bV, 1, none⟩ = some (.slice ap ps.length cp) := hV7.cell 1
                  obtain ⟨c0, c1, c2', c3, c4, c5, c6⟩ := Bk.seven (show Bk w7 (wr.heap.size + 1) 40 [_, _, _, _, _, _, _] from hB7')
                  clear hg hlx hx7 hV7 hP7 hf7 hp7 hL7' hb7' hB7' hB7 hO7 hL7 hZ hb7 hxu hVu hPu hfu' hpu f0 f1 f2 f3 f4 f5 f6 f7 f8 f9 f10 hBu
                  go_wp2_with fail
                  refine m7.mono ?_
                  rintro e w8 ⟨rfl, hb8⟩
                  have HB8 : Hid (Below w6.heap.size w6 w8) := Below.thn HB7.out hb8
                  clear m7 hb8 q0 q1 c0 c1 c2' c3 c4 c5 c6
                  obtain ⟨k1, k2⟩ := HL3.out
                  by_cases hge : ge = 0
                  · obtain ⟨a1, a2⟩ := k1.1 hge
                    have a3 := k2 hge
                    have g1 : (ge == 0) = true := by simpa using hge
                    have g2 : (e0 == 0) = true := by simpa using a1
                    have g3 : (t0 == (u : Int)) = true := by simpa using a2
                    have g4 : (gv != (u : Int)) = false := by simpa using a3
                    clear k1 k2 hge a1 a2 a3 HL3
                    go_wp2_with fail
                    go_roundw
                    case rel => exact ⟨u + 1, by omega, by omega, by go_num, HB8.out⟩
                    case measure => simp [intOf]; omega
                  · have g1 : (ge == 0) = false := by simpa using hge
                    by_cases a1 : e0 = 0
                    · have a2 : ¬ t0 = (u : Int) := fun h => hge (k1.2 ⟨a1, h⟩)
                      have g2 : (e0 == 0) = true := by simpa using a1
                      have g3 : (t0 == (u : Int)) = false := by simpa using a2
                      clear k1 k2 hge a1 a2 HL3
                      go_wp2_with fail
                      go_roundw
                      case rel => exact ⟨u + 1, by omega, by omega, by go_num, HB8.out⟩
                      case measure => simp [intOf]; omega
                    · have g2 : (e0 == 0) = false := by simpa using a1
                      clear k1 k2 hge a1 HL3
                      go_wp2_with fail
                      go_roundw
                      case rel => exact ⟨u + 1, by omega, by omega, by go_num, HB8.out⟩
                      case measure => simp [intOf]; omega
                · have hue : u = 4 := by omega
                  subst hue
                  have HBu : Hid (Below w4.heap.size w4 wr) := Below.thn HB6.out hBu
                  rw [HAN.out]
                  clear hBu hx6 hp6 hf6 hP6 hV6
                  go_wp2_with fail
                  go_roundw
                  case rel => exact ⟨k + 1, by omega, by go_num, rfl, HBu.out⟩
                  case measure => simp [intOf]; omega
        · have hke : k = gs.length := by omega
          subst hke
          have m9 := check_ok (c := c2) HOK.out HLN.out hfk
          have HAT : Hid (((tyP gs).1 == 0) = allB gs gs.length) := all_ty HSC.out HLN.out fun g hg => (HLN.out g hg).ty
          obtain ⟨⟨zy, za⟩, hz⟩ : ∃ z, z = tyP gs := ⟨_, rfl⟩
          rw [← hz] at m9 HAT
          dsimp only at m9 HAT
          clear hz
          obtain ⟨ab, hab⟩ : ∃ ab, ab = allB gs gs.length := ⟨_, rfl⟩
          rw [← hab] at HAT ⊢
          have HBk : Hid (Below w4.heap.size w4 wr) := hBk
          clear hab hBk
          go_wp2_with fail
          refine m9.mono ?_
          rintro e w9 ⟨rfl, hb9⟩
          have fl9 := fld0 zy za w9
          have HB9 : Hid (Below w.heap.size w w9) := Below.thn (Below.thn HB4.out HBk.out) hb9
          have hq9 : ((zy == 0) == ab) = true := by rw [HAT.out]; simp
          clear m9 hb9
          go_wp2_with fail
          go_ret
          exact ⟨rfl, HB9.out⟩
    · have g : (qy != 0) = true := by simpa using hy
      go_wp2_with fail
      go_ret
      exact ⟨rfl, HB4.out⟩
  · have hb3 := below_alloc w2 (.cells #[.slice none 0 0] 26)
    have HB3 : Hid _ := Below.thn hB2 hb3
    clear hb3 hB2
    go_wp2_with fail
    go_ret
    exact ⟨rfl, HB3.out⟩
end Go.Proofs.Ytnpigleolifcaaa
