/-
  3 texts in one: what each proves stands at its head.
-/
import Derived.Test.YtaneibojiamjeaaGreatDoorUkc
import Derived.Test.YtaneibojiamjeaaGreatDoorIa
import Derived.Test.YtaneibojiamjeaaGreatDoorUka
import Derived.Test.YtaneibojiamjeaaGreatDoorUt
import Derived.Test.YtaneibojiamjeaaGreatDoorUl
import Derived.Lib.SlBytesConst
import Derived.Test.YtaneibojiamjeaaGreatDoorUe
import Derived.Test.YtaneibojiamjeaaGreatDoorUjb
import Derived.Test.YtaneibojiamjeaaGreatDoorUs
/-
  The law's calls whose answers the document fixes.
-/
namespace Go.Proofs.YtaneibojiamjeaaGreatDoor
open Go.RowKit
set_option maxRecDepth 100000

theorem prgLn {l : List UInt8} {ms : List Mk} {f : Nat} {gs : List Fn1} {j : Nat} (hl : l.length ≤ 32768) (hc : cut rdN l 0 = .ok ms) (hp : progL (mf ms) LW5 f [] 0 = .ok gs j) : ∀ g ∈ gs, lnF g :=
  al_prog (mf ms) LW5 (fun k _ => Nat.le_trans (mf_len hc k) (by omega)) (fun _ _ => trivial) f [] 0 (by simp) gs j hp
def tA6 : List UInt8 := [102, 40, 120, 32, 78, 44, 120, 32, 76, 41, 58, 78, 61, 122, 43, 103, 40, 41, 59]
def msA6 : List Mk := match cut rdN tA6 0 with | .ok ms => ms | .bad _ => []
def tB6 : List UInt8 := [102, 40, 120, 32, 78, 41, 58, 78, 61, 108, 101, 116, 32, 121, 32, 78, 61, 104, 43, 120, 32, 105, 110, 32, 49, 43, 121, 59]
def msB6 : List Mk := match cut rdN tB6 0 with | .ok ms => ms | .bad _ => []
def gA6 : Fn1 := ⟨[102], [⟨[120], 1, 2⟩, ⟨[120], 3, 6⟩], 1, .mk 8 [] [] 0 0 0 [.mk 6 [122] [] 0 0 0 [] 13, .mk 7 [103] [] 0 0 0 [] 15] 14, 0⟩
def gB6 : Fn1 := ⟨[102], [⟨[120], 1, 2⟩], 1, .mk 21 [121] [] 1 0 0 [.mk 8 [] [] 0 0 0 [.mk 6 [104] [] 0 0 0 [] 17, .mk 6 [120] [] 0 0 0 [] 19] 18, .mk 8 [] [] 0 0 0 [.mk 1 [] [] 0 1 0 [] 24, .mk 6 [121] [] 0 0 0 [] 26] 25] 9, 0⟩
theorem cutA6 : cut rdN tA6 0 = .ok msA6 := by kernel_rfl
theorem progA6 : progL (mf msA6) LW5 400 [] 0 = .ok [gA6] 17 := by kernel_rfl
theorem rdA6 {B : Nat} {e : Ending} {w' : World} (h : rdV tA6 400 B e w') : ∃ ao c, e = .returned (.tuple #[.agg #[.slice ao 1 c], .bool true]) ∧ FlW w' (fun b => B ≤ b) ao [gA6] := by
  rcases h with ⟨ms, gs, j, ao, c, h1, h2, h3, h4, h5⟩ | ⟨h, _⟩
  · rw [cutA6] at h2
    cases h2
    rw [progA6] at h3
    cases h3
    exact ⟨ao, c, h4, h5⟩
  · exact absurd ⟨by decide, cutA6, progA6⟩ (h _ _ _)
theorem okA6 : PrgOk [gA6] := prgOk (l := tA6) (f := 400) (by decide) (by decide) cutA6 progA6
theorem lnA6 : ∀ g ∈ [gA6], lnF g := prgLn (l := tA6) (f := 400) (by decide) cutA6 progA6
theorem cutB6 : cut rdN tB6 0 = .ok msB6 := by kernel_rfl
theorem progB6 : progL (mf msB6) LW5 400 [] 0 = .ok [gB6] 20 := by kernel_rfl
theorem rdB6 {B : Nat} {e : Ending} {w' : World} (h : rdV tB6 400 B e w') : ∃ ao c, e = .returned (.tuple #[.agg #[.slice ao 1 c], .bool true]) ∧ FlW w' (fun b => B ≤ b) ao [gB6] := by
  rcases h with ⟨ms, gs, j, ao, c, h1, h2, h3, h4, h5⟩ | ⟨h, _⟩
  · rw [cutB6] at h2
    cases h2
    rw [progB6] at h3
    cases h3
    exact ⟨ao, c, h4, h5⟩
  · exact absurd ⟨by decide, cutB6, progB6⟩ (h _ _ _)
theorem lnB6 : ∀ g ∈ [gB6], lnF g := prgLn (l := tB6) (f := 400) (by decide) cutB6 progB6
theorem chkA6 : scP [gA6] = (30, 6) := by kernel_rfl
theorem frB6 {o : List (List UInt8)} (h : IsSrt (frE gB6.body) o) : o = [[104], [120]] := by
  refine h.one (o' := [[104], [120]]) (l' := [[104], [120]]) ⟨by decide, fun _ => Iff.rfl⟩ fun x => ?_
  rw [show frE gB6.body = [[104], [120]] by kernel_rfl]
theorem nmB6 {o : List (List UInt8)} (h : IsSrt (nmA gB6) o) : o = [[102], [104], [120], [121]] := by
  refine h.one (o' := [[102], [104], [120], [121]]) (l' := [[102], [104], [120], [121]]) ⟨by decide, fun _ => Iff.rfl⟩ fun x => ?_
  rw [show nmA gB6 = [[102], [120], [121], [104], [120], [121]] by kernel_rfl]
  simp only [List.mem_cons, List.not_mem_nil, or_false]
  constructor
  · rintro (h | h | h | h | h | h) <;> simp [h]
  · rintro (h | h | h | h) <;> simp [h]
theorem ns_four {w : World} {t : TypeId} {s1 s2 s3 s4 : List UInt8} {g : Nat} (h : Bk w g t [.string (bs s1), .string (bs s2), .string (bs s3), .string (bs s4)]) : Ns w (some ⟨g, 0, none⟩) [s1, s2, s3, s4] := fun j x hj => by
  have hj0 := (List.getElem?_eq_some_iff.1 hj).1
  have : j = 0 ∨ j = 1 ∨ j = 2 ∨ j = 3 := by simp at hj0; omega
  rcases this with rfl | rfl | rfl | rfl
  · cases hj; exact ⟨g, 0, rfl, h.cell 0⟩
  · cases hj; exact ⟨g, 0, rfl, h.cell 1⟩
  · cases hj; exact ⟨g, 0, rfl, h.cell 2⟩
  · cases hj; exact ⟨g, 0, rfl, h.cell 3⟩
theorem usB6 : usE [120] gB6.body = 1 := by kernel_rfl
theorem szB6 : szE gB6.body = 7 := by kernel_rfl
theorem nsB6 : nE gB6.body = 1 := by kernel_rfl
theorem frsh6 {j : Nat} (h : (frN [[116, 50]] j).length = 2) : frN [[116, 50]] j = [[116, 49], [116, 51]] := by
  have e : frN [[116, 50]] 3 = [[116, 49], [116, 51]] := by kernel_rfl
  rw [frN_one (i := j) (j := 3) (by rw [e, h]; rfl), e]
/-- A program that was read, as a law holds it: its box, its first definition. -/
theorem check6_ok {w : World} {A : Nat → Prop} {ao : Option Addr} {gs : List Fn1} {c : Nat} (ho : PrgOk gs) (hln : ∀ g ∈ gs, lnF g) (hF : FlW w A ao gs) :
    Calls Tryz.prog 11 #[.agg #[.slice ao gs.length c]] w fun e w' => e = .returned (.agg #[.int .i64 (scP gs).1, .int .i64 (scP gs).2]) ∧ Below w.heap.size w w' :=
  scopeCheck_any (A := fun b => A b ∧ b < w.heap.size) (hF.imp fun b h hl => ⟨h, hl⟩) (fun _ h => h.2) hln (fun g hg => by have := ho.sz g hg; omega) (fun g hg => by have := ho.pms g hg; omega) (by have := ho.num; omega)

set_option maxHeartbeats 8000000 in
theorem awake6_any (w : World) (ht : Tab w) :
    Calls Tryz.prog 9 #[] w fun e w' => e = .returned (.bool true) ∧ Below w.heap.size w w' := by
  have hcs := Lib.run_convert_bytes_const (P := Tryz.prog) w 22 5 #[.int .u8 102, .int .u8 40, .int .u8 120, .int .u8 32, .int .u8 78, .int .u8 44, .int .u8 120, .int .u8 32, .int .u8 76, .int .u8 41, .int .u8 58, .int .u8 78, .int .u8 61, .int .u8 122, .int .u8 43, .int .u8 103, .int .u8 40, .int .u8 41, .int .u8 59] 19 19 (by kernel_rfl) (by kernel_rfl)
  have hbd := Bd.new w tA6 5 (19, 20)
  have hb1 := below_alloc w (.cells #[.int .u8 102, .int .u8 40, .int .u8 120, .int .u8 32, .int .u8 78, .int .u8 44, .int .u8 120, .int .u8 32, .int .u8 76, .int .u8 41, .int .u8 58, .int .u8 78, .int .u8 61, .int .u8 122, .int .u8 43, .int .u8 103, .int .u8 40, .int .u8 41, .int .u8 59] 5 (19, 20))
  have m1 := read5_any (some ⟨w.heap.size, 0, none⟩) 19 tA6 (by decide) _ hbd 400 (fun ms e => by rw [cutA6] at e; cases e; rw [progA6]; simp)
  go_enter Tryz.func9, Tryz.ntmps9
  go_wp2_with fail
  refine m1.mono ?_
  rintro e w2 ⟨hb2, hrd⟩
  obtain ⟨ao, c, rfl, hfl⟩ := rdA6 hrd
  have hB2 := Below.thn hb1 hb2
  clear m1 hcs hbd hrd hb2 hb1
  have hb3 := below_alloc w2 (.cells #[.slice ao 1 c] 26)
  have hP3 := Bk.new w2 26 #[.slice ao 1 c]
  have hB3 := Below.thn hB2 hb3
  have hf3 := hfl.up hb3
  go_upto_region 2 with fail
  generalize hW : w2.alloc (.cells #[.slice ao 1 c] 26) = W3 at *
  clear hW hfl hB2 hb3
  have hcs := Lib.run_convert_bytes_const (P := Tryz.prog) W3 22 5 #[.int .u8 102, .int .u8 40, .int .u8 120, .int .u8 32, .int .u8 78, .int .u8 41, .int .u8 58, .int .u8 78, .int .u8 61, .int .u8 108, .int .u8 101, .int .u8 116, .int .u8 32, .int .u8 121, .int .u8 32, .int .u8 78, .int .u8 61, .int .u8 104, .int .u8 43, .int .u8 120, .int .u8 32, .int .u8 105, .int .u8 110, .int .u8 32, .int .u8 49, .int .u8 43, .int .u8 121, .int .u8 59] 28 28 (by kernel_rfl) (by kernel_rfl)
  have hbd := Bd.new W3 tB6 5 (28, 29)
  have hb1 := below_alloc W3 (.cells #[.int .u8 102, .int .u8 40, .int .u8 120, .int .u8 32, .int .u8 78, .int .u8 41, .int .u8 58, .int .u8 78, .int .u8 61, .int .u8 108, .int .u8 101, .int .u8 116, .int .u8 32, .int .u8 121, .int .u8 32, .int .u8 78, .int .u8 61, .int .u8 104, .int .u8 43, .int .u8 120, .int .u8 32, .int .u8 105, .int .u8 110, .int .u8 32, .int .u8 49, .int .u8 43, .int .u8 121, .int .u8 59] 5 (28, 29))
  have m1 := read5_any (some ⟨W3.heap.size, 0, none⟩) 28 tB6 (by decide) _ hbd 400 (fun ms e => by rw [cutB6] at e; cases e; rw [progB6]; simp)
  go_wp2_with fail
  refine m1.mono ?_
  rintro e w4 ⟨hb4, hrd⟩
  obtain ⟨ao', c', rfl, hfl⟩ := rdB6 hrd
  have hB4 := Below.thn hb1 hb4
  clear m1 hcs hbd hrd hb4 hb1
  have hb5 := below_alloc w4 (.cells #[.slice ao' 1 c'] 26)
  have hP5 := Bk.new w4 26 #[.slice ao' 1 c']
  have hB5 := Below.thn hB4 hb5
  have hf5 := hfl.up hb5
  go_upto_region 3 with fail
  generalize hW : w4.alloc (.cells #[.slice ao' 1 c'] 26) = W5 at *
  clear hW hfl hB4 hb5
  have hP3' := hP3.up hB5
  have hf3' := hf3.up hB5
  have hBw5 := Below.thn hB3 hB5
  have HB5 : Hid (Below w.heap.size w W5) := hBw5
  have ht5 := tab_keep ht hBw5
  clear hP3 hf3 hB3 hB5 hBw5
  obtain ⟨G, vs, rfl, _, hv, hxv⟩ := hf5.at 0 (by decide)
  obtain ⟨ap, cp, es, rfl, hp1, hx1⟩ := id hxv
  obtain ⟨x0, x1, x2, x3, x4, x5, x6, rfl⟩ := list7 hx1.len
  have HQ : Hid (∀ W, Below W5.heap.size W5 W → W.cell? ⟨w4.heap.size, 0, none⟩ = some (.slice (some ⟨G, 0, none⟩) 1 c') ∧ W.cell? ⟨G, 0, none⟩ = some (.string (bs [102])) ∧ W.cell? ⟨G, 1, none⟩ = some (.slice ap 1 cp) ∧ W.cell? ⟨G, 2, none⟩ = some (.int .i64 1) ∧ W.cell? ⟨G, 3, none⟩ = some x0 ∧ W.cell? ⟨G, 4, none⟩ = some x1 ∧ W.cell? ⟨G, 5, none⟩ = some x2 ∧ W.cell? ⟨G, 6, none⟩ = some x3 ∧ W.cell? ⟨G, 7, none⟩ = some x4 ∧ W.cell? ⟨G, 8, none⟩ = some x5 ∧ W.cell? ⟨G, 9, none⟩ = some x6 ∧ W.cell? ⟨G, 10, none⟩ = some (.int .i64 0)) := fun W hW => by
    have k : ∀ j v, ([.string (bs [102]), .slice ap 1 cp, .int .i64 1, x0, x1, x2, x3, x4, x5, x6, .int .i64 0] : List Value)[j]? = some v → W.cell? ⟨G, j, none⟩ = some v := fun j v hj => by
      have h := hv j v hj
      rw [Nat.zero_mul, Nat.zero_add] at h
      exact (hW.cell (cell_lt h)).trans h
    exact ⟨(hP5.up hW).cell 0, k 0 _ rfl, k 1 _ rfl, k 2 _ rfl, k 3 _ rfl, k 4 _ rfl, k 5 _ rfl, k 6 _ rfl, k 7 _ rfl, k 8 _ rfl, k 9 _ rfl, k 10 _ rfl⟩
  have HX : Hid (∀ W, Below W5.heap.size W5 W → ∃ A, ExW W A gB6.body [x0, x1, x2, x3, x4, x5, x6]) := fun W hW => ⟨_, hx1.up hW⟩
  obtain ⟨A0, hA0⟩ : ∃ A0, FnW W5 A0 gB6 [.string (bs [102]), .slice ap 1 cp, .int .i64 1, x0, x1, x2, x3, x4, x5, x6, .int .i64 0] := ⟨_, hxv⟩
  have HF : Hid (∀ W, Below W5.heap.size W5 W → ∃ A, (∀ k, A k → k < W.heap.size) ∧ FnW W A gB6 [.string (bs [102]), .slice ap 1 cp, .int .i64 1, x0, x1, x2, x3, x4, x5, x6, .int .i64 0]) := fun W hW => ⟨fun b => A0 b ∧ b < W.heap.size, fun _ h => h.2, (FnW.up hA0 hW).imp fun b h hl => ⟨h, hl⟩⟩
  have HP3 : Hid (Bk W5 w2.heap.size 26 [.slice ao 1 c] ∧ FlW W5 _ ao [gA6]) := ⟨hP3', hf3'⟩
  clear hv hxv hp1 hx1 hf5 hP5 hP3' hf3' ht hA0
  have hb6 := below_alloc W5 (.cells #[.string (bs [116, 50])] 9)
  have hfr := fresh6_any (cap := 1) [[116, 50]] (ns_one (Bk.new W5 9 #[.string (bs [116, 50])])) (fun g off h => by cases h; simp) (fun s h => by rw [List.mem_singleton] at h; subst h; decide) (by decide) (tab_keep ht5 hb6) 2 (by decide)
  go_wp2_with fail
  refine hfr.mono ?_
  rintro e w6 ⟨⟨v6, j6, rfl, hj6, ho6⟩, hb6'⟩
  rw [frsh6 hj6] at ho6
  have hB6 := Below.thn hb6 hb6'
  have HO6 : Hid (∀ W, Below w6.heap.size w6 W → OwN W W5.heap.size v6 [[116, 49], [116, 51]]) := fun W hW => (ho6.base (by have := hb6.size; omega)).upp hW
  obtain ⟨a6, c6, rfl, _, _, _⟩ := ho6.names
  have p0 : w6.cell? ⟨w2.heap.size, 0, none⟩ = some (.slice ao 1 c) := (HP3.out.1.up hB6).cell 0
  have m2 := check6_ok (c := c) okA6 lnA6 (HP3.out.2.up hB6)
  rw [chkA6] at m2
  clear hfr hb6 hb6' ho6 hj6 ht5
  go_wp2_with fail
  refine m2.mono ?_
  rintro e w7 ⟨rfl, hb7⟩
  have hB7 := Below.thn hB6 hb7
  have HB6 : Hid (∀ W, Below w7.heap.size w7 W → Below w6.heap.size w6 W) := fun W hW => Below.thn hb7 hW
  obtain ⟨A1, hx1⟩ := HX.out w7 hB7
  have m3 := free6_any (x := gB6.body) (by decide) (lnB6 gB6 (by simp)).body w7 A1 _ hx1
  obtain ⟨q0, q1, q2, q3, q4, q5, q6, q7, q8, q9, q10, q11⟩ := HQ.out w7 hB7
  clear m2 p0 hb7 hx1 hB6
  go_wp2_with fail
  refine m3.mono ?_
  rintro e w8 ⟨⟨v8, o8, rfl, hI8, ho8⟩, hb8⟩
  obtain rfl := frB6 hI8
  obtain ⟨a8, c8, rfl, hN8, _, _⟩ := ho8.names
  have hb9 := below_alloc w8 (.cells #[.string (bs [104]), .string (bs [120])] 9)
  have m4 := same6_any (c1 := c8) (c2 := 2) (hN8.up hb9) (ns_two (Bk.new w8 9 #[.string (bs [104]), .string (bs [120])])) (by decide)
  rw [decide_eq_true rfl] at m4
  have hB9 := Below.thn hb8 hb9
  clear m3 q0 q1 q2 q3 q4 q5 q6 q7 q8 q9 q10 q11 hI8 ho8 hN8 hb8 hb9
  go_wp2_with fail
  refine m4.mono ?_
  rintro e wa ⟨rfl, hba⟩
  have hBa := Below.thn hB7 (Below.thn hB9 hba)
  have hCa := Below.thn hB9 hba
  obtain ⟨A1, hx1⟩ := HX.out wa hBa
  have m5 := uses6_any (x := gB6.body) (by decide) (lnB6 gB6 (by simp)).body wa A1 _ hx1 [120]
  rw [usB6] at m5
  obtain ⟨q0, q1, q2, q3, q4, q5, q6, q7, q8, q9, q10, q11⟩ := HQ.out wa hBa
  clear m4 hB9 hba hx1
  go_wp2_with fail
  refine m5.mono ?_
  rintro e wb ⟨rfl, hbb⟩
  have hBb := Below.thn hBa hbb
  have hCb := Below.thn hCa hbb
  obtain ⟨A1, hA1, hf1⟩ := HF.out wb hBb
  have m6 := names6_any hf1 hA1 (lnB6 gB6 (by simp)) (by decide) (by decide)
  clear m5 q0 q1 q2 q3 q4 q5 q6 q7 q8 q9 q10 q11 hBa hCa hbb
  obtain ⟨q0, q1, q2, q3, q4, q5, q6, q7, q8, q9, q10, q11⟩ := HQ.out wb hBb
  go_wp2_with fail
  refine m6.mono ?_
  rintro e wc ⟨⟨v8, o8, rfl, hI8, ho8⟩, hbc⟩
  obtain rfl := nmB6 hI8
  obtain ⟨a8, c8, rfl, hN8, _, _⟩ := ho8.names
  have hb9 := below_alloc wc (.cells #[.string (bs [102]), .string (bs [104]), .string (bs [120]), .string (bs [121])] 9)
  have m7 := same6_any (c1 := c8) (c2 := 4) (hN8.up hb9) (ns_four (Bk.new wc 9 #[.string (bs [102]), .string (bs [104]), .string (bs [120]), .string (bs [121])])) (by decide)
  rw [decide_eq_true rfl] at m7
  have hBc := Below.thn hBb (Below.thn hbc hb9)
  have hCc := Below.thn hCb (Below.thn hbc hb9)
  clear m6 q0 q1 q2 q3 q4 q5 q6 q7 q8 q9 q10 q11 hI8 ho8 hN8 hbc hb9 hf1 hA1 hBb hCb
  go_wp2_with fail
  refine m7.mono ?_
  rintro e wd ⟨rfl, hbd⟩
  have hBd := Below.thn hBc hbd
  have hCd := Below.thn hCc hbd
  obtain ⟨A1, hx1⟩ := HX.out wd hBd
  have m8 := size6_any 7 gB6.body (by decide) (by decide) wd A1 _ hx1
  rw [szB6] at m8
  obtain ⟨q0, q1, q2, q3, q4, q5, q6, q7, q8, q9, q10, q11⟩ := HQ.out wd hBd
  clear m7 hx1 hBc hCc hbd
  go_wp2_with fail
  refine m8.mono ?_
  rintro e we ⟨rfl, hbe⟩
  have hBe := Below.thn hBd hbe
  have hCe := Below.thn hCd hbe
  obtain ⟨A1, hx1⟩ := HX.out we hBe
  have m9 := nest6_any 7 gB6.body (by decide) (by decide) we A1 _ hx1
  rw [nsB6] at m9
  clear m8 q0 q1 q2 q3 q4 q5 q6 q7 q8 q9 q10 q11 hx1 hBd hCd hbe
  obtain ⟨q0, q1, q2, q3, q4, q5, q6, q7, q8, q9, q10, q11⟩ := HQ.out we hBe
  go_wp2_with fail
  refine m9.mono ?_
  rintro e wf ⟨rfl, hbf⟩
  have hBf := Below.thn hBe hbf
  have hCf := Below.thn hCe hbf
  have ho6 := HO6.out wf (HB6.out wf hCf)
  obtain ⟨a9, c9, e9, hN9, _, _⟩ := ho6.names
  cases e9
  have hb9 := below_alloc wf (.cells #[.string (bs [116, 49]), .string (bs [116, 51])] 9)
  have m10 := same6_any (c1 := c6) (c2 := 2) (hN9.up hb9) (ns_two (Bk.new wf 9 #[.string (bs [116, 49]), .string (bs [116, 51])])) (by decide)
  rw [decide_eq_true rfl] at m10
  have HB9 : Hid (Below w.heap.size w (wf.alloc (.cells #[.string (bs [116, 49]), .string (bs [116, 51])] 9))) := Below.thn HB5.out (Below.thn hBf hb9)
  clear m9 q0 q1 q2 q3 q4 q5 q6 q7 q8 q9 q10 q11 hBe hCe hbf hBf hCf ho6 hN9 hb9
  go_wp2_with fail
  refine m10.mono ?_
  rintro e wg ⟨rfl, hbg⟩
  have HG : Hid (Below w.heap.size w wg) := Below.thn HB9.out hbg
  clear m10 hbg
  go_wp2_with fail
  go_ret
  exact ⟨rfl, HG.out⟩
end Go.Proofs.YtaneibojiamjeaaGreatDoor
/-
  The region of ScopeChecks that draws its order.
-/
namespace Go.Proofs.YtaneibojiamjeaaGreatDoor
open Go.RowKit
set_option maxRecDepth 100000

section
variable {Q : Exit → Act → World → Prop} {X0 w0 : World} {a0 : Act}
end
section
variable {Q : Exit → Act → World → Prop} {X0 w0 : World} {a0 : Act}
end
end Go.Proofs.YtaneibojiamjeaaGreatDoor
/-
  The walk of ScopeChecks.
-/
namespace Go.Proofs.YtaneibojiamjeaaGreatDoor
open Go.RowKit
set_option maxRecDepth 100000

/-- Which of the two a read was. -/
theorem rd_fork {l : List UInt8} {f B : Nat} {e : Ending} {w' : World} (h : rdV l f B e w') :
    (∃ ms gs j ao c, l.length ≤ 32768 ∧ cut rdN l 0 = .ok ms ∧ progL (mf ms) LW5 f [] 0 = .ok gs j ∧ e = .returned (.tuple #[.agg #[.slice ao gs.length c], .bool true]) ∧ FlW w' (fun b => B ≤ b) ao gs) ∨ e = .returned (.tuple #[.agg #[.slice none 0 0], .bool false]) := by
  rcases h with h | ⟨_, h⟩
  · exact .inl h
  · exact .inr h
end Go.Proofs.YtaneibojiamjeaaGreatDoor
