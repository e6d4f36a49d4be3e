/-
  The walk of TypesTurn.
-/
import Derived.Test.YtkbglnhdbnijlaaTy
import Derived.Test.YtkbglnhdbnijlaaTg
import Derived.Test.YtkbglnhdbnijlaaJm
import Derived.Lib.ConvBytes
namespace Go.Proofs.Ytkbglnhdbnijlaa
open Go.RowKit
set_option maxRecDepth 100000

/-! What the law asks, plainly. -/
def ifE (x y z : Ex) : Ex := .mk 19 [] [] 0 0 0 [x, y, z] 0
def biE (op : Int) (x y : Ex) : Ex := .mk op [] [] 0 0 0 [x, y] 0
section
variable {ff : List UInt8 → Option Fn1} {ps : List Pm} {x y z : Ex}
theorem ifE_ok (tf : List UInt8 → Int) (t : Int) : okE ff tf (ifE x y z) t ↔ okE ff tf x 2 ∧ okE ff tf y t ∧ okE ff tf z t := by
  unfold ifE
  rw [okE, okL, okL, okL, okL]
  have e0 : ∀ i, bnd7 19 [] [] 0 i = [] := fun i => by simp [bnd7]
  have e1 : wntT ff 19 [] 0 0 t = 2 := by simp [wntT, frs]
  have e2 : wntT ff 19 [] 0 1 t = t := by simp [wntT, frs]
  have e3 : wntT ff 19 [] 0 (1 + 1) t = t := by simp [wntT, frs]
  have e4 : ownB 19 = false := by decide
  have e7 : bindT tf [] = tf := rfl
  simp only [e0, e1, e2, e3, e4, e7, Nat.zero_add]
  simp
theorem if_of (hx : lnE x) (hy : lnE y) (hz : lnE z) : ((ofP ff ps (ifE x y z)).2 = 0 ↔ (ofP ff ps x).2 = 0 ∧ (ofP ff ps x).1 = 2 ∧ (ofP ff ps y).2 = 0 ∧ (ofP ff ps z).2 = 0 ∧ (ofP ff ps y).1 = (ofP ff ps z).1) ∧ ((ofP ff ps (ifE x y z)).2 = 0 → (ofP ff ps (ifE x y z)).1 = (ofP ff ps y).1) := by
  have hx2 := ofP_iff (ff := ff) (ps := ps) hx (t := 2) (.inr (.inl rfl))
  rcases ofP_cases (ff := ff) (ps := ps) (x := ifE x y z) with ⟨a, b, c⟩ | ⟨a, b⟩
  · rw [ifE_ok] at c
    have hy2 := (ofP_iff (ff := ff) (ps := ps) hy b).2 c.2.1
    have hz2 := (ofP_iff (ff := ff) (ps := ps) hz b).2 c.2.2
    have hx3 := hx2.2 c.1
    exact ⟨⟨fun _ => ⟨hx3.1, hx3.2, hy2.1, hz2.1, hy2.2.trans hz2.2.symm⟩, fun _ => a⟩, fun _ => hy2.2.symm⟩
  · have e : (ofP ff ps (ifE x y z)).2 = 34 := by rw [a]
    refine ⟨⟨fun h => absurd (e.symm.trans h) (by decide), fun h => ?_⟩, fun h => absurd (e.symm.trans h) (by decide)⟩
    rcases ofP_cases (ff := ff) (ps := ps) (x := y) with ⟨a2, b2, c2⟩ | ⟨a2, _⟩
    · have hz2 := (ofP_iff (ff := ff) (ps := ps) hz b2).1 ⟨h.2.2.2.1, h.2.2.2.2.symm⟩
      exact absurd ((ifE_ok _ _).2 ⟨hx2.1 ⟨h.1, h.2.1⟩, c2, hz2⟩) (b _ b2)
    · have := h.2.2.1
      rw [a2] at this
      cases this
theorem bi_of {op a b c : Int} (hok : ∀ (tf : List UInt8 → Int) (t : Int), okE ff tf (biE op x y) t ↔ t = c ∧ okE ff tf x a ∧ okE ff tf y b) (ha : a = 1 ∨ a = 2 ∨ a = 3) (hb : b = 1 ∨ b = 2 ∨ b = 3) (hc : c = 1 ∨ c = 2 ∨ c = 3) (hx : lnE x) (hy : lnE y) :
    ((ofP ff ps (biE op x y)).2 = 0 ↔ (ofP ff ps x).2 = 0 ∧ (ofP ff ps x).1 = a ∧ (ofP ff ps y).2 = 0 ∧ (ofP ff ps y).1 = b) ∧ ((ofP ff ps (biE op x y)).2 = 0 → (ofP ff ps (biE op x y)).1 = c) ∧ (¬ (ofP ff ps (biE op x y)).2 = 0 → (ofP ff ps (biE op x y)).2 = 34 ∧ (ofP ff ps (biE op x y)).1 = 0) := by
  have hxa := ofP_iff (ff := ff) (ps := ps) hx ha
  have hyb := ofP_iff (ff := ff) (ps := ps) hy hb
  rcases ofP_cases (ff := ff) (ps := ps) (x := biE op x y) with ⟨p, q, r⟩ | ⟨p, q⟩
  · rw [hok] at r
    have h1 := hxa.2 r.2.1
    have h2 := hyb.2 r.2.2
    exact ⟨⟨fun _ => ⟨h1.1, h1.2, h2.1, h2.2⟩, fun _ => p⟩, fun _ => r.1, fun h => absurd p h⟩
  · have e : (ofP ff ps (biE op x y)).2 = 34 := by rw [p]
    have e1 : (ofP ff ps (biE op x y)).1 = 0 := by rw [p]
    refine ⟨⟨fun h => absurd (e.symm.trans h) (by decide), fun h => ?_⟩, fun h => absurd (e.symm.trans h) (by decide), fun _ => ⟨e, e1⟩⟩
    exact absurd ((hok _ c).2 ⟨rfl, hxa.1 ⟨h.1, h.2.1⟩, hyb.1 ⟨h.2.2.1, h.2.2.2⟩⟩) (q c hc)
theorem cons_ok (tf : List UInt8 → Int) (t : Int) : okE ff tf (biE 18 x y) t ↔ t = 3 ∧ okE ff tf x 1 ∧ okE ff tf y 3 := by
  unfold biE
  rw [okE, okL, okL, okL]
  have e0 : ∀ i, bnd7 18 [] [] 0 i = [] := fun i => by simp [bnd7]
  have e1 : wntT ff 18 [] 0 0 t = 1 := by simp [wntT, frs]
  have e2 : wntT ff 18 [] 0 1 t = 3 := by simp [wntT, frs]
  have e4 : ownB 18 = true := by decide
  have e5 : ownT ff tf 18 [] 0 2 = 3 := by simp [ownT]
  have e7 : bindT tf [] = tf := rfl
  simp only [e0, e1, e2, e4, e5, e7, Nat.zero_add, List.length_cons, List.length_nil, Nat.reduceAdd]
  constructor
  · rintro ⟨h, h1, h2, _⟩
    refine ⟨?_, h1, h2⟩
    by_cases e : (3 : Int) = t
    · exact e.symm
    · exact absurd ⟨trivial, e⟩ h
  · rintro ⟨rfl, h1, h2⟩
    exact ⟨fun h => h.2 rfl, h1, h2, trivial⟩
theorem less_ok (tf : List UInt8 → Int) (t : Int) : okE ff tf (biE 13 x y) t ↔ t = 2 ∧ okE ff tf x 1 ∧ okE ff tf y 1 := by
  unfold biE
  rw [okE, okL, okL, okL]
  have e0 : ∀ i, bnd7 13 [] [] 0 i = [] := fun i => by simp [bnd7]
  have e1 : wntT ff 13 [] 0 0 t = 1 := by simp [wntT]
  have e2 : wntT ff 13 [] 0 1 t = 1 := by simp [wntT]
  have e4 : ownB 13 = true := by decide
  have e5 : ownT ff tf 13 [] 0 2 = 2 := by simp [ownT]
  have e7 : bindT tf [] = tf := rfl
  simp only [e0, e1, e2, e4, e5, e7, Nat.zero_add, List.length_cons, List.length_nil, Nat.reduceAdd]
  constructor
  · rintro ⟨h, h1, h2, _⟩
    refine ⟨?_, h1, h2⟩
    by_cases e : (2 : Int) = t
    · exact e.symm
    · exact absurd ⟨trivial, e⟩ h
  · rintro ⟨rfl, h1, h2⟩
    exact ⟨fun h => h.2 rfl, h1, h2, trivial⟩
theorem mul_ok (tf : List UInt8 → Int) (t : Int) : okE ff tf (biE 10 x y) t ↔ t = 1 ∧ okE ff tf x 1 ∧ okE ff tf y 1 := by
  unfold biE
  rw [okE, okL, okL, okL]
  have e0 : ∀ i, bnd7 10 [] [] 0 i = [] := fun i => by simp [bnd7]
  have e1 : wntT ff 10 [] 0 0 t = 1 := by simp [wntT]
  have e2 : wntT ff 10 [] 0 1 t = 1 := by simp [wntT]
  have e4 : ownB 10 = true := by decide
  have e5 : ownT ff tf 10 [] 0 2 = 1 := by simp [ownT]
  have e7 : bindT tf [] = tf := rfl
  simp only [e0, e1, e2, e4, e5, e7, Nat.zero_add, List.length_cons, List.length_nil, Nat.reduceAdd]
  constructor
  · rintro ⟨h, h1, h2, _⟩
    refine ⟨?_, h1, h2⟩
    by_cases e : (1 : Int) = t
    · exact e.symm
    · exact absurd ⟨trivial, e⟩ h
  · rintro ⟨rfl, h1, h2⟩
    exact ⟨fun h => h.2 rfl, h1, h2, trivial⟩
end
theorem ifE_wf {x y z : Ex} (hx : lnE x) (hy : lnE y) (hz : lnE z) : lnE (ifE x y z) := by
  unfold ifE lnE
  rw [wfE_mk]
  refine ⟨.cond, ?_⟩
  rw [wfL_cons, wfL_cons, wfL_cons]
  exact ⟨hx, hy, hz, wfL_nil⟩
theorem biE_wf {op : Int} (ho : op = 18 ∨ op = 12 ∨ op = 13 ∨ op = 8 ∨ op = 9 ∨ op = 10 ∨ op = 11) {x y : Ex} (hx : lnE x) (hy : lnE y) : lnE (biE op x y) := by
  unfold biE lnE
  rw [wfE_mk]
  refine ⟨.two ho, ?_⟩
  rw [wfL_cons, wfL_cons]
  exact ⟨hx, hy, wfL_nil⟩
theorem ifE_sz (x y z : Ex) : szE (ifE x y z) = szE x + (szE y + szE z) + 1 := by
  unfold ifE
  rw [szE_mk, szL_cons, szL_cons, szL_cons, szL_nil]
  omega
theorem biE_sz (op : Int) (x y : Ex) : szE (biE op x y) = szE x + szE y + 1 := by
  unfold biE
  rw [szE_mk, szL_cons, szL_cons, szL_nil]
  omega
theorem row_part {w : World} {bl : Nat} {au us cs : List Value} (hb : Bk w bl 40 (au ++ (us ++ cs))) {o : Nat} (ho : au.length = o) : w.rangeAt bl o us := fun j v hj => by
  refine (hb.cell (o + j)).trans ?_
  have hl := (List.getElem?_eq_some_iff.1 hj).1
  rw [List.getElem?_append_right (by omega), show o + j - au.length = j by omega, List.getElem?_append_left hl]
  exact hj
theorem two_ex {w : World} {A B : Nat → Prop} {x y : Ex} {x0 x1 x2 x3 x4 x5 x6 y0 y1 y2 y3 y4 y5 y6 : Value} (hx : ExW w A x [x0, x1, x2, x3, x4, x5, x6]) (hy : ExW w B y [y0, y1, y2, y3, y4, y5, y6]) {bl : Nat} (hb : Bk w bl 40 [x0, x1, x2, x3, x4, x5, x6, y0, y1, y2, y3, y4, y5, y6]) (op : Int) :
    ExW w (fun _ => True) (biE op x y) [.int .i64 op, .string ⟨#[]⟩, .string ⟨#[]⟩, .int .i64 0, .complex .f64 0 0, .slice (some ⟨bl, 0, none⟩) 2 2, .int .i64 0] :=
  .mk (.cons trivial (row_part (au := []) (us := [x0, x1, x2, x3, x4, x5, x6]) (cs := [y0, y1, y2, y3, y4, y5, y6]) hb rfl) (hx.imp fun _ _ _ => trivial) (.cons trivial (row_part (au := [x0, x1, x2, x3, x4, x5, x6]) (us := [y0, y1, y2, y3, y4, y5, y6]) (cs := []) hb rfl) (hy.imp fun _ _ _ => trivial) .nil))
theorem three_ex {w : World} {A B C : Nat → Prop} {x y z : Ex} {x0 x1 x2 x3 x4 x5 x6 y0 y1 y2 y3 y4 y5 y6 z0 z1 z2 z3 z4 z5 z6 : Value} (hx : ExW w A x [x0, x1, x2, x3, x4, x5, x6]) (hy : ExW w B y [y0, y1, y2, y3, y4, y5, y6]) (hz : ExW w C z [z0, z1, z2, z3, z4, z5, z6]) {bl : Nat} (hb : Bk w bl 40 [x0, x1, x2, x3, x4, x5, x6, y0, y1, y2, y3, y4, y5, y6, z0, z1, z2, z3, z4, z5, z6]) :
    ExW w (fun _ => True) (ifE x y z) [.int .i64 19, .string ⟨#[]⟩, .string ⟨#[]⟩, .int .i64 0, .complex .f64 0 0, .slice (some ⟨bl, 0, none⟩) 3 3, .int .i64 0] :=
  .mk (.cons trivial (row_part (au := []) (us := [x0, x1, x2, x3, x4, x5, x6]) (cs := [y0, y1, y2, y3, y4, y5, y6, z0, z1, z2, z3, z4, z5, z6]) hb rfl) (hx.imp fun _ _ _ => trivial) (.cons trivial (row_part (au := [x0, x1, x2, x3, x4, x5, x6]) (us := [y0, y1, y2, y3, y4, y5, y6]) (cs := [z0, z1, z2, z3, z4, z5, z6]) hb rfl) (hy.imp fun _ _ _ => trivial) (.cons trivial (row_part (au := [x0, x1, x2, x3, x4, x5, x6, y0, y1, y2, y3, y4, y5, y6]) (us := [z0, z1, z2, z3, z4, z5, z6]) (cs := []) hb rfl) (hz.imp fun _ _ _ => trivial) .nil)))

def tT (a b c : List UInt8) : List UInt8 := [102, 40, 120, 32, 78, 44, 121, 32, 66, 44, 108, 32, 76, 41, 58, 78, 61, 40] ++ a ++ [10, 41, 59, 103, 40, 120, 32, 78, 44, 121, 32, 66, 44, 108, 32, 76, 41, 58, 78, 61, 40] ++ b ++ [10, 41, 59, 104, 40, 120, 32, 78, 44, 121, 32, 66, 44, 108, 32, 76, 41, 58, 78, 61, 40] ++ c ++ [10, 41, 59]
theorem tT_bs (a b c : List UInt8) : ((⟨#[102, 40, 120, 32, 78, 44, 121, 32, 66, 44, 108, 32, 76, 41, 58, 78, 61, 40]⟩ : ByteArray) ++ bs a ++ ⟨#[10, 41, 59, 103, 40, 120, 32, 78, 44, 121, 32, 66, 44, 108, 32, 76, 41, 58, 78, 61, 40]⟩ ++ bs b ++ ⟨#[10, 41, 59, 104, 40, 120, 32, 78, 44, 121, 32, 66, 44, 108, 32, 76, 41, 58, 78, 61, 40]⟩ ++ bs c ++ ⟨#[10, 41, 59]⟩) = bs (tT a b c) := by
  rw [show (⟨#[102, 40, 120, 32, 78, 44, 121, 32, 66, 44, 108, 32, 76, 41, 58, 78, 61, 40]⟩ : ByteArray) = bs [102, 40, 120, 32, 78, 44, 121, 32, 66, 44, 108, 32, 76, 41, 58, 78, 61, 40] from rfl, show (⟨#[10, 41, 59, 103, 40, 120, 32, 78, 44, 121, 32, 66, 44, 108, 32, 76, 41, 58, 78, 61, 40]⟩ : ByteArray) = bs [10, 41, 59, 103, 40, 120, 32, 78, 44, 121, 32, 66, 44, 108, 32, 76, 41, 58, 78, 61, 40] from rfl, show (⟨#[10, 41, 59, 104, 40, 120, 32, 78, 44, 121, 32, 66, 44, 108, 32, 76, 41, 58, 78, 61, 40]⟩ : ByteArray) = bs [10, 41, 59, 104, 40, 120, 32, 78, 44, 121, 32, 66, 44, 108, 32, 76, 41, 58, 78, 61, 40] from rfl, show (⟨#[10, 41, 59]⟩ : ByteArray) = bs [10, 41, 59] from rfl]
  simp only [bs_app]
  rfl
theorem conv_bd (w : World) (l : List UInt8) : ∃ cap w', (convert 9 22 (.string (bs l))).run Try.prog w = .ok (.slice (some ⟨w.heap.size, 0, none⟩) l.length cap) w' ∧ Bd w' (some ⟨w.heap.size, 0, none⟩) l ∧ l.length ≤ cap ∧ Below w.heap.size w w' := by
  have hr := Lib.run_convert_string_bytes (P := Try.prog) w 9 22 5 (bs l) Try.underlying9 Try.underlying22 Try.underlying5
  rw [bs_size] at hr
  refine ⟨_, _, hr, ⟨fun _ => ⟨w.heap.size, 0, rfl, fun t ht => ?_⟩⟩, grownCap_ge w l.length 0 _, ⟨rfl, rfl, rfl, by rw [Lib.bytesWorld_size]; omega, fun k hk => Lib.bytesWorld_at_old w _ _ k hk⟩⟩
  rw [Nat.zero_add, Lib.bytesWorld_cell w _ _ t (by rw [bs_size]; exact ht), bs_list]

theorem wp_act {P : Program} {c : Code} {Q : Exit → Act → World → Prop} {a : Act} {w : World} (h : ∀ a0, a0 = a → c.wp P Q a0 w) : c.wp P Q a w := h a rfl
/-- What the walk knows of memory. -/
structure TtS (w : World) (b7 b10 b11 b12 : Nat) (ao : Option Addr) (gs : List Fn1) (c2 : Nat) (ap : Option Addr) (ps : List Pm) (x y z : Ex) (us vs ws : List Value) : Prop where
  prog : Bk w b7 26 [.slice ao gs.length c2]
  fl : FlW w (fun _ => True) ao gs
  pl : PlW w (fun _ => True) ap ps
  bx : Bk w b10 40 us
  by_ : Bk w b11 40 vs
  bz : Bk w b12 40 ws
  hx : ExW w (fun _ => True) x us
  hy : ExW w (fun _ => True) y vs
  hz : ExW w (fun _ => True) z ws
theorem TtS.up {w w' : World} {b7 b10 b11 b12 : Nat} {ao : Option Addr} {gs : List Fn1} {c2 : Nat} {ap : Option Addr} {ps : List Pm} {x y z : Ex} {us vs ws : List Value} (h : TtS w b7 b10 b11 b12 ao gs c2 ap ps x y z us vs ws) (hb : Below w.heap.size w w') : TtS w' b7 b10 b11 b12 ao gs c2 ap ps x y z us vs ws :=
  ⟨h.prog.up hb, h.fl.up hb, h.pl.up hb, h.bx.up hb, h.by_.up hb, h.bz.up hb, h.hx.up hb, h.hy.up hb, h.hz.up hb⟩

set_option maxHeartbeats 16000000 in
theorem typesTurn_any (a b c : List UInt8) (ha : a.length ≤ 140737488355328) (hb : b.length ≤ 140737488355328) (hc : c.length ≤ 140737488355328) (w : World) :
    Calls Try.prog 5 #[.string (bs a), .string (bs b), .string (bs c)] w fun e w' => e = .returned (.bool true) ∧ Below w.heap.size w w' := by
  go_enter Try.func5, Try.ntmps5
  go_wp2_with fail
  refine (awake7_any w).mono ?_
  rintro e w1 ⟨rfl, hb1⟩
  have za := bs_size a
  have zb := bs_size b
  have zc := bs_size c
  have e1 : (9223372036854775807 < 18 + (bs a).size) = False := by apply eq_false; omega
  have e2 : (9223372036854775807 < 18 + (bs a).size + 21) = False := by apply eq_false; omega
  have e3 : (9223372036854775807 < 18 + (bs a).size + 21 + (bs b).size) = False := by apply eq_false; omega
  have e4 : (9223372036854775807 < 18 + (bs a).size + 21 + (bs b).size + 21) = False := by apply eq_false; omega
  have e5 : (9223372036854775807 < 18 + (bs a).size + 21 + (bs b).size + 21 + (bs c).size) = False := by apply eq_false; omega
  have e6 : (9223372036854775807 < 18 + (bs a).size + 21 + (bs b).size + 21 + (bs c).size + 3) = False := by apply eq_false; omega
  obtain ⟨cap, wT, R, hbd, hcap, hbT⟩ := conv_bd w1 (tT a b c)
  rw [← tT_bs] at R
  generalize tT a b c = T at *
  obtain ⟨F, hF⟩ : ∃ F, F = 12 * (T.length + 1) + 9 := ⟨_, rfl⟩
  have hfu : ∀ ms, cut rdN T 0 = .ok ms → progL (mf ms) LW5 F [] 0 ≠ .out := fuel_ok T LW5 F (by omega)
  have HF : Hid (F = 12 * (T.length + 1) + 9) := hF
  have m2 := read5_any (some ⟨w1.heap.size, 0, none⟩) cap T hcap wT hbd F hfu
  have hB1 := Below.thn hb1 hbT
  clear hF hb1 hbT hbd za zb zc ha hb hc
  go_upto_region 3 with fail
  go_cut [7, 8] (fun v7 v8 wx => ∃ b7 : Nat, v7 = .pointer (some ⟨b7, 0, none⟩) ∧ Below w.heap.size w wx ∧ ((∃ gs a2 c2, v8 = .bool true ∧ Hid (PrgOk gs ∧ ∀ g ∈ gs, lnF g) ∧ FlW wx (fun _ => True) a2 gs ∧ Bk wx b7 26 [.slice a2 gs.length c2]) ∨ (v8 = .bool false ∧ Bk wx b7 26 [.slice none 0 0])))
  case first =>
   as_aux_lemma =>
     go_wp2_with fail
     refine m2.mono ?_
     rintro e w2 ⟨hb2, hrd⟩
     have hB2 := Below.thn hB1 hb2
     clear m2 hB1 hb2 R e1 e2 e3 e4 e5 e6
     rcases rd_fork hrd with ⟨ms, gs, j, a2, c2, hl, hc, hp, rfl, hfl⟩ | rfl
     · have hb3 := below_alloc w2 (.cells #[.slice a2 gs.length c2] 26)
       have HX : Hid (Below w.heap.size w (w2.alloc (.cells #[.slice a2 gs.length c2] 26)) ∧ Hid (PrgOk gs ∧ ∀ g ∈ gs, lnF g) ∧ FlW (w2.alloc (.cells #[.slice a2 gs.length c2] 26)) (fun _ => True) a2 gs ∧ Bk (w2.alloc (.cells #[.slice a2 gs.length c2] 26)) w2.heap.size 26 [.slice a2 gs.length c2]) :=
         ⟨Below.thn hB2 hb3, ⟨prgOk hl (by rw [HF.out]; exact Nat.le_refl _) hc hp, prgLn hl hc hp⟩, (hfl.up hb3).imp fun _ _ _ => trivial, Bk.new w2 26 #[.slice a2 gs.length c2]⟩
       clear hb3 hl hc hp hfl hrd hB2
       go_wp2_with fail
       go_meet
       case rel => exact ⟨_, rfl, HX.out.1, .inl ⟨gs, a2, c2, rfl, HX.out.2⟩⟩
     · have hb3 := below_alloc w2 (.cells #[.slice none 0 0] 26)
       have HX : Hid (Below w.heap.size w (w2.alloc (.cells #[.slice none 0 0] 26)) ∧ Bk (w2.alloc (.cells #[.slice none 0 0] 26)) w2.heap.size 26 [.slice none 0 0]) := ⟨Below.thn hB2 hb3, Bk.new w2 26 #[.slice none 0 0]⟩
       clear hb3 hrd hB2
       go_wp2_with fail
       go_meet
       case rel => exact ⟨_, rfl, HX.out.1, .inr ⟨rfl, HX.out.2⟩⟩
  case rest =>
   as_aux_lemma =>
    obtain ⟨b7, rfl, hB7, ⟨gs, a2, c2, rfl, HG, hf3, hP3⟩ | ⟨rfl, hP3⟩⟩ := hcut
    · have HOK : Hid (PrgOk gs) := HG.out.1
      have HLN : Hid (∀ g ∈ gs, lnF g) := HG.out.2
      have HB3 : Hid (Below w.heap.size w wc) := hB7
      clear m2 R e1 e2 e3 e4 e5 e6 hB1 hB7 HG hcap hfu HF
      rename World => W3
      have p3 : W3.cell? ⟨b7, 0, none⟩ = some (.slice a2 gs.length c2) := hP3.cell 0
      by_cases h3 : gs.length = 3
      · have g3 : ((gs.length : Int) != 3) = false := by simp; omega
        have H3 : Hid (gs.length = 3) := h3
        clear h3
        have m4 := check06_ok (c := c2) HOK.out hf3
        obtain ⟨⟨qy, qa⟩, hq⟩ : ∃ q, q = lsP (ftP gs) := ⟨_, rfl⟩
        rw [← hq] at m4
        clear hq
        dsimp only at m4
        go_wp2_with fail
        refine m4.mono ?_
        rintro e w4 ⟨rfl, hb4⟩
        have fl4 := fld0 qy qa w4
        have HB4 : Hid (Below w.heap.size w w4) := Below.thn HB3.out hb4
        have hP4 := hP3.up hb4
        have hf4 := hf3.up hb4
        clear m4 p3 hP3 hf3 hb4
        by_cases hy : qy = 0
        · subst hy
          have p4 : w4.cell? ⟨b7, 0, none⟩ = some (.slice a2 gs.length c2) := hP4.cell 0
          have HL3 : Hid (0 < gs.length ∧ 1 < gs.length ∧ 2 < gs.length) := by have := H3.out; exact ⟨by omega, by omega, by omega⟩
          have l0 : 0 < gs.length := HL3.out.1
          have l1 : 1 < gs.length := HL3.out.2.1
          have l2 : 2 < gs.length := HL3.out.2.2
          have hm : ∀ k, k < gs.length → gs.getD k fd ∈ gs := fun k hk => by rw [List.getD_eq_getElem?_getD, List.getElem?_eq_getElem hk]; exact List.getElem_mem hk
          have HX : Hid (lnF (gs.getD 0 fd) ∧ lnF (gs.getD 1 fd) ∧ lnF (gs.getD 2 fd)) := ⟨HLN.out _ (hm 0 HL3.out.1), HLN.out _ (hm 1 HL3.out.2.1), HLN.out _ (hm 2 HL3.out.2.2)⟩
          have s0 := HOK.out.sz _ (hm 0 HL3.out.1)
          have s1 := HOK.out.sz _ (hm 1 HL3.out.2.1)
          have s2 := HOK.out.sz _ (hm 2 HL3.out.2.2)
          have s3 := HOK.out.pms _ (hm 0 HL3.out.1)
          obtain ⟨G, vs0, rfl, _, hv0, hx0⟩ := hf4.at 0 HL3.out.1
          obtain ⟨G', vs1, eG, _, hv1, hx1⟩ := hf4.at 1 HL3.out.2.1
          cases eG
          obtain ⟨G', vs2, eG, _, hv2, hx2⟩ := hf4.at 2 HL3.out.2.2
          cases eG
          obtain ⟨q0, hq0⟩ : ∃ q, q = gs.getD 0 fd := ⟨_, rfl⟩
          obtain ⟨q1, hq1⟩ : ∃ q, q = gs.getD 1 fd := ⟨_, rfl⟩
          obtain ⟨q2, hq2⟩ : ∃ q, q = gs.getD 2 fd := ⟨_, rfl⟩
          rw [← hq0] at hx0 HX s0 s3
          rw [← hq1] at hx1 HX s1
          rw [← hq2] at hx2 HX s2
          clear hq0 hq1 hq2 hm
          obtain ⟨n0, ps, t0, x, i0⟩ := q0
          obtain ⟨n1, ps1, t1, y, i1⟩ := q1
          obtain ⟨n2, ps2, t2, z, i2⟩ := q2
          dsimp only at s0 s1 s2 s3
          obtain ⟨ap, cp, es0, rfl, hp0, hx0⟩ := hx0
          obtain ⟨ap1, cp1, es1, rfl, _, hx1⟩ := hx1
          obtain ⟨ap2, cp2, es2, rfl, _, hx2⟩ := hx2
          dsimp only at hp0 hx0 hx1 hx2 hv0 hv1 hv2
          obtain ⟨x0, x1, x2, x3, x4, x5, x6, rfl⟩ := list7 hx0.len
          obtain ⟨y0, y1, y2, y3, y4, y5, y6, rfl⟩ := list7 hx1.len
          obtain ⟨z0, z1, z2, z3, z4, z5, z6, rfl⟩ := list7 hx2.len
          have d1 : w4.cell? ⟨G, 1, none⟩ = some (.slice ap ps.length cp) := hv0 1 _ rfl
          have xc0 : w4.cell? ⟨G, 3, none⟩ = some x0 := hv0 3 _ rfl
          have xc1 : w4.cell? ⟨G, 4, none⟩ = some x1 := hv0 4 _ rfl
          have xc2 : w4.cell? ⟨G, 5, none⟩ = some x2 := hv0 5 _ rfl
          have xc3 : w4.cell? ⟨G, 6, none⟩ = some x3 := hv0 6 _ rfl
          have xc4 : w4.cell? ⟨G, 7, none⟩ = some x4 := hv0 7 _ rfl
          have xc5 : w4.cell? ⟨G, 8, none⟩ = some x5 := hv0 8 _ rfl
          have xc6 : w4.cell? ⟨G, 9, none⟩ = some x6 := hv0 9 _ rfl
          have yc0 : w4.cell? ⟨G, 14, none⟩ = some y0 := hv1 3 _ rfl
          have yc1 : w4.cell? ⟨G, 15, none⟩ = some y1 := hv1 4 _ rfl
          have yc2 : w4.cell? ⟨G, 16, none⟩ = some y2 := hv1 5 _ rfl
          have yc3 : w4.cell? ⟨G, 17, none⟩ = some y3 := hv1 6 _ rfl
          have yc4 : w4.cell? ⟨G, 18, none⟩ = some y4 := hv1 7 _ rfl
          have yc5 : w4.cell? ⟨G, 19, none⟩ = some y5 := hv1 8 _ rfl
          have yc6 : w4.cell? ⟨G, 20, none⟩ = some y6 := hv1 9 _ rfl
          have zc0 : w4.cell? ⟨G, 25, none⟩ = some z0 := hv2 3 _ rfl
          have zc1 : w4.cell? ⟨G, 26, none⟩ = some z1 := hv2 4 _ rfl
          have zc2 : w4.cell? ⟨G, 27, none⟩ = some z2 := hv2 5 _ rfl
          have zc3 : w4.cell? ⟨G, 28, none⟩ = some z3 := hv2 6 _ rfl
          have zc4 : w4.cell? ⟨G, 29, none⟩ = some z4 := hv2 7 _ rfl
          have zc5 : w4.cell? ⟨G, 30, none⟩ = some z5 := hv2 8 _ rfl
          have zc6 : w4.cell? ⟨G, 31, none⟩ = some z6 := hv2 9 _ rfl
          clear hv0 hv1 hv2
          have hZ := Bk.new w4 40 #[.int .i64 0, .string ⟨#[]⟩, .string ⟨#[]⟩, .int .i64 0, .complex .f64 0 0, .slice none 0 0, .int .i64 0]
          go_upto_region 8 with (refine wpList_storeN rfl 40 (.tmp 10) (.tmp 60) rfl w4.heap.size 0 [x0, x1, x2, x3, x4, x5, x6] rfl rfl hZ (Nat.le_refl 7) Try.infoE hx0.one ?_; intro w5 hB hO)
          have hBx : Bk w5 w4.heap.size 40 [x0, x1, x2, x3, x4, x5, x6] := hB
          have hbx : Below w4.heap.size w4 w5 := (below_alloc w4 _).trans (hO.below (Nat.le_refl _))
          clear hZ hB hO
          have yc0 : w5.cell? ⟨G, 14, none⟩ = some y0 := (World.cell?_of_block (hbx.block G (cell_lt yc0))).trans yc0
          have yc1 : w5.cell? ⟨G, 15, none⟩ = some y1 := (World.cell?_of_block (hbx.block G (cell_lt yc1))).trans yc1
          have yc2 : w5.cell? ⟨G, 16, none⟩ = some y2 := (World.cell?_of_block (hbx.block G (cell_lt yc2))).trans yc2
          have yc3 : w5.cell? ⟨G, 17, none⟩ = some y3 := (World.cell?_of_block (hbx.block G (cell_lt yc3))).trans yc3
          have yc4 : w5.cell? ⟨G, 18, none⟩ = some y4 := (World.cell?_of_block (hbx.block G (cell_lt yc4))).trans yc4
          have yc5 : w5.cell? ⟨G, 19, none⟩ = some y5 := (World.cell?_of_block (hbx.block G (cell_lt yc5))).trans yc5
          have yc6 : w5.cell? ⟨G, 20, none⟩ = some y6 := (World.cell?_of_block (hbx.block G (cell_lt yc6))).trans yc6
          have zc0 : w5.cell? ⟨G, 25, none⟩ = some z0 := (World.cell?_of_block (hbx.block G (cell_lt zc0))).trans zc0
          have zc1 : w5.cell? ⟨G, 26, none⟩ = some z1 := (World.cell?_of_block (hbx.block G (cell_lt zc1))).trans zc1
          have zc2 : w5.cell? ⟨G, 27, none⟩ = some z2 := (World.cell?_of_block (hbx.block G (cell_lt zc2))).trans zc2
          have zc3 : w5.cell? ⟨G, 28, none⟩ = some z3 := (World.cell?_of_block (hbx.block G (cell_lt zc3))).trans zc3
          have zc4 : w5.cell? ⟨G, 29, none⟩ = some z4 := (World.cell?_of_block (hbx.block G (cell_lt zc4))).trans zc4
          have zc5 : w5.cell? ⟨G, 30, none⟩ = some z5 := (World.cell?_of_block (hbx.block G (cell_lt zc5))).trans zc5
          have zc6 : w5.cell? ⟨G, 31, none⟩ = some z6 := (World.cell?_of_block (hbx.block G (cell_lt zc6))).trans zc6
          have p4 : w5.cell? ⟨b7, 0, none⟩ = some (.slice (some ⟨G, 0, none⟩) gs.length c2) := (World.cell?_of_block (hbx.block b7 (cell_lt p4))).trans p4
          have hZ := Bk.new w5 40 #[.int .i64 0, .string ⟨#[]⟩, .string ⟨#[]⟩, .int .i64 0, .complex .f64 0 0, .slice none 0 0, .int .i64 0]
          go_upto_region 9 with (refine wpList_storeN rfl 40 (.tmp 11) (.tmp 65) rfl w5.heap.size 0 [y0, y1, y2, y3, y4, y5, y6] rfl rfl hZ (Nat.le_refl 7) Try.infoE hx1.one ?_; intro w6 hB hO)
          have hBy : Bk w6 w5.heap.size 40 [y0, y1, y2, y3, y4, y5, y6] := hB
          have hby : Below w5.heap.size w5 w6 := (below_alloc w5 _).trans (hO.below (Nat.le_refl _))
          clear hZ hB hO
          have zc0 : w6.cell? ⟨G, 25, none⟩ = some z0 := (World.cell?_of_block (hby.block G (cell_lt zc0))).trans zc0
          have zc1 : w6.cell? ⟨G, 26, none⟩ = some z1 := (World.cell?_of_block (hby.block G (cell_lt zc1))).trans zc1
          have zc2 : w6.cell? ⟨G, 27, none⟩ = some z2 := (World.cell?_of_block (hby.block G (cell_lt zc2))).trans zc2
          have zc3 : w6.cell? ⟨G, 28, none⟩ = some z3 := (World.cell?_of_block (hby.block G (cell_lt zc3))).trans zc3
          have zc4 : w6.cell? ⟨G, 29, none⟩ = some z4 := (World.cell?_of_block (hby.block G (cell_lt zc4))).trans zc4
          have zc5 : w6.cell? ⟨G, 30, none⟩ = some z5 := (World.cell?_of_block (hby.block G (cell_lt zc5))).trans zc5
          have zc6 : w6.cell? ⟨G, 31, none⟩ = some z6 := (World.cell?_of_block (hby.block G (cell_lt zc6))).trans zc6
          have p4 : w6.cell? ⟨b7, 0, none⟩ = some (.slice (some ⟨G, 0, none⟩) gs.length c2) := (World.cell?_of_block (hby.block b7 (cell_lt p4))).trans p4
          have hZ := Bk.new w6 40 #[.int .i64 0, .string ⟨#[]⟩, .string ⟨#[]⟩, .int .i64 0, .complex .f64 0 0, .slice none 0 0, .int .i64 0]
          go_upto_region 10 with (refine wpList_storeN rfl 40 (.tmp 12) (.tmp 70) rfl w6.heap.size 0 [z0, z1, z2, z3, z4, z5, z6] rfl rfl hZ (Nat.le_refl 7) Try.infoE hx2.one ?_; intro w7 hB hO)
          have hBz : Bk w7 w6.heap.size 40 [z0, z1, z2, z3, z4, z5, z6] := hB
          have hbz : Below w6.heap.size w6 w7 := (below_alloc w6 _).trans (hO.below (Nat.le_refl _))
          clear hZ hB hO
          have hb47 := Below.thn (Below.thn hbx hby) hbz
          have hS : TtS w7 b7 w4.heap.size w5.heap.size w6.heap.size (some ⟨G, 0, none⟩) gs c2 ap ps x y z [x0, x1, x2, x3, x4, x5, x6] [y0, y1, y2, y3, y4, y5, y6] [z0, z1, z2, z3, z4, z5, z6] := ⟨hP4.up hb47, hf4.up hb47, (hp0.up hb47).imp fun _ _ _ => trivial, (hBx.up hby).up hbz, hBy.up hbz, hBz, (hx0.up hb47).imp fun _ _ _ => trivial, (hx1.up hb47).imp fun _ _ _ => trivial, (hx2.up hb47).imp fun _ _ _ => trivial⟩
          have HB7 : Hid (Below w.heap.size w w7) := Below.thn HB4.out hb47
          obtain ⟨b10, hb10⟩ : ∃ b, b = w4.heap.size := ⟨_, rfl⟩
          obtain ⟨b11, hb11⟩ : ∃ b, b = w5.heap.size := ⟨_, rfl⟩
          obtain ⟨b12, hb12⟩ : ∃ b, b = w6.heap.size := ⟨_, rfl⟩
          rw [← hb10, ← hb11, ← hb12] at hS ⊢
          clear hb10 hb11 hb12 hb47 hbx hby hbz hBx hBy hBz hx0 hx1 hx2 hp0 hP4 hf4 p4 d1 xc0 xc1 xc2 xc3 xc4 xc5 xc6 yc0 yc1 yc2 yc3 yc4 yc5 yc6 zc0 zc1 zc2 zc3 zc4 zc5 zc6
          have HLP : Hid (∀ p ∈ ps, p.name.length ≤ 140737488355328) := fun p h => (HX.out.1.pms p h).1
          have HLx : Hid (lnE x) := HX.out.1.body
          have HLy : Hid (lnE y) := HX.out.2.1.body
          have HLz : Hid (lnE z) := HX.out.2.2.body
          clear HX
          rename_i K hK
          refine wp_act ?_
          intro a0 ha0
          have sz0 : 251 ≤ a0.tmps.size := by rw [ha0]; exact Nat.le_refl 251
          have df0 : a0.defers = [] := by rw [ha0]; rfl
          have e0_7 : Rv.ev a0 7 = .pointer (some ⟨b7, 0, none⟩) := by rw [ha0]; rfl
          have e0_9 : Rv.ev a0 9 = .slice ap ps.length cp := by rw [ha0]; rfl
          have e0_10 : Rv.ev a0 10 = .pointer (some ⟨b10, 0, none⟩) := by rw [ha0]; rfl
          have e0_11 : Rv.ev a0 11 = .pointer (some ⟨b11, 0, none⟩) := by rw [ha0]; rfl
          have e0_12 : Rv.ev a0 12 = .pointer (some ⟨b12, 0, none⟩) := by rw [ha0]; rfl
          clear ha0 l0 l1 l2 g3 fl4
          obtain ⟨⟨tx, ex⟩, hq⟩ : ∃ q, q = ofP (funF gs) ps x := ⟨_, rfl⟩
          have HTx : Hid (ofP (funF gs) ps x = (tx, ex)) := hq.symm
          clear hq
          refine wp_region_list ?_
          refine turn10 (X0 := w7) (b7 := b7) (bx := b10) (G := G) (L := gs.length) (c2 := c2) (np := ps.length) (cp := cp) (ap := ap) (tt_ := tx) (ee := ex) (x0 := x0) (x1 := x1) (x2 := x2) (x3 := x3) (x4 := x4) (x5 := x5) (x6 := x6) (fun W hW => (hS.up hW).prog.cell 0) (fun W hW => Bk.seven (hS.up hW).bx) (fun W hW => ?_) sz0 e0_7 e0_9 e0_10 (Below.refl _ _) ?_
          · have m := of_ok (c := c2) (cap := cp) HOK.out HLN.out (hS.up hW).fl (hS.up hW).pl.q HLP.out (by omega) (hS.up hW).hx HLx.out (by omega)
            rw [HTx.out] at m
            exact m
          intro a1 w8 hO hB hv
          refine hK a1 w8 ?_
          have sz1 : 251 ≤ a1.tmps.size := by rw [hO.size]; exact sz0
          have df1 : a1.defers = [] := hO.def_.trans df0
          have e1_7 : Rv.ev a1 7 = .pointer (some ⟨b7, 0, none⟩) := (hO.same 7 (by decide)).trans e0_7
          have e1_9 : Rv.ev a1 9 = .slice ap ps.length cp := (hO.same 9 (by decide)).trans e0_9
          have e1_10 : Rv.ev a1 10 = .pointer (some ⟨b10, 0, none⟩) := (hO.same 10 (by decide)).trans e0_10
          have e1_11 : Rv.ev a1 11 = .pointer (some ⟨b11, 0, none⟩) := (hO.same 11 (by decide)).trans e0_11
          have e1_12 : Rv.ev a1 12 = .pointer (some ⟨b12, 0, none⟩) := (hO.same 12 (by decide)).trans e0_12
          have e1_13 : Rv.ev a1 13 = .int .i64 tx := hv 7 (by decide)
          have e1_14 : Rv.ev a1 14 = .int .i64 ex := hv 8 (by decide)
          have hSw8 := hS.up hB
          have HBw8 : Hid (Below w.heap.size w w8) := Below.thn HB7.out hB
          clear sz0 df0 e0_7 e0_9 e0_10 e0_11 e0_12
          clear hO hB hv hK hS
          refine wp_seq_k fun K hK => ?_
          obtain ⟨⟨ty, ey⟩, hq⟩ : ∃ q, q = ofP (funF gs) ps y := ⟨_, rfl⟩
          have HTy : Hid (ofP (funF gs) ps y = (ty, ey)) := hq.symm
          clear hq
          refine wp_region_list ?_
          refine turn11 (X0 := w8) (b7 := b7) (bx := b11) (G := G) (L := gs.length) (c2 := c2) (np := ps.length) (cp := cp) (ap := ap) (tt_ := ty) (ee := ey) (x0 := y0) (x1 := y1) (x2 := y2) (x3 := y3) (x4 := y4) (x5 := y5) (x6 := y6) (fun W hW => (hSw8.up hW).prog.cell 0) (fun W hW => Bk.seven (hSw8.up hW).by_) (fun W hW => ?_) sz1 e1_7 e1_9 e1_11 (Below.refl _ _) ?_
          · have m := of_ok (c := c2) (cap := cp) HOK.out HLN.out (hSw8.up hW).fl (hSw8.up hW).pl.q HLP.out (by omega) (hSw8.up hW).hy HLy.out (by omega)
            rw [HTy.out] at m
            exact m
          intro a2 w9 hO hB hv
          refine hK a2 w9 ?_
          have sz2 : 251 ≤ a2.tmps.size := by rw [hO.size]; exact sz1
          have df2 : a2.defers = [] := hO.def_.trans df1
          have e2_7 : Rv.ev a2 7 = .pointer (some ⟨b7, 0, none⟩) := (hO.same 7 (by decide)).trans e1_7
          have e2_9 : Rv.ev a2 9 = .slice ap ps.length cp := (hO.same 9 (by decide)).trans e1_9
          have e2_10 : Rv.ev a2 10 = .pointer (some ⟨b10, 0, none⟩) := (hO.same 10 (by decide)).trans e1_10
          have e2_11 : Rv.ev a2 11 = .pointer (some ⟨b11, 0, none⟩) := (hO.same 11 (by decide)).trans e1_11
          have e2_12 : Rv.ev a2 12 = .pointer (some ⟨b12, 0, none⟩) := (hO.same 12 (by decide)).trans e1_12
          have e2_13 : Rv.ev a2 13 = .int .i64 tx := (hO.same 13 (by decide)).trans e1_13
          have e2_14 : Rv.ev a2 14 = .int .i64 ex := (hO.same 14 (by decide)).trans e1_14
          have e2_15 : Rv.ev a2 15 = .int .i64 ty := hv 7 (by decide)
          have e2_16 : Rv.ev a2 16 = .int .i64 ey := hv 8 (by decide)
          have hSw9 := hSw8.up hB
          have HBw9 : Hid (Below w.heap.size w w9) := Below.thn HBw8.out hB
          clear sz1 df1 e1_7 e1_9 e1_10 e1_11 e1_12 e1_13 e1_14
          clear hO hB hv hK hSw8
          refine wp_seq_k fun K hK => ?_
          obtain ⟨⟨tz, ez⟩, hq⟩ : ∃ q, q = ofP (funF gs) ps z := ⟨_, rfl⟩
          have HTz : Hid (ofP (funF gs) ps z = (tz, ez)) := hq.symm
          clear hq
          refine wp_region_list ?_
          refine turn12 (X0 := w9) (b7 := b7) (bx := b12) (G := G) (L := gs.length) (c2 := c2) (np := ps.length) (cp := cp) (ap := ap) (tt_ := tz) (ee := ez) (x0 := z0) (x1 := z1) (x2 := z2) (x3 := z3) (x4 := z4) (x5 := z5) (x6 := z6) (fun W hW => (hSw9.up hW).prog.cell 0) (fun W hW => Bk.seven (hSw9.up hW).bz) (fun W hW => ?_) sz2 e2_7 e2_9 e2_12 (Below.refl _ _) ?_
          · have m := of_ok (c := c2) (cap := cp) HOK.out HLN.out (hSw9.up hW).fl (hSw9.up hW).pl.q HLP.out (by omega) (hSw9.up hW).hz HLz.out (by omega)
            rw [HTz.out] at m
            exact m
          intro a3 w10 hO hB hv
          refine hK a3 w10 ?_
          have sz3 : 251 ≤ a3.tmps.size := by rw [hO.size]; exact sz2
          have df3 : a3.defers = [] := hO.def_.trans df2
          have e3_7 : Rv.ev a3 7 = .pointer (some ⟨b7, 0, none⟩) := (hO.same 7 (by decide)).trans e2_7
          have e3_9 : Rv.ev a3 9 = .slice ap ps.length cp := (hO.same 9 (by decide)).trans e2_9
          have e3_10 : Rv.ev a3 10 = .pointer (some ⟨b10, 0, none⟩) := (hO.same 10 (by decide)).trans e2_10
          have e3_11 : Rv.ev a3 11 = .pointer (some ⟨b11, 0, none⟩) := (hO.same 11 (by decide)).trans e2_11
          have e3_12 : Rv.ev a3 12 = .pointer (some ⟨b12, 0, none⟩) := (hO.same 12 (by decide)).trans e2_12
          have e3_13 : Rv.ev a3 13 = .int .i64 tx := (hO.same 13 (by decide)).trans e2_13
          have e3_14 : Rv.ev a3 14 = .int .i64 ex := (hO.same 14 (by decide)).trans e2_14
          have e3_15 : Rv.ev a3 15 = .int .i64 ty := (hO.same 15 (by decide)).trans e2_15
          have e3_16 : Rv.ev a3 16 = .int .i64 ey := (hO.same 16 (by decide)).trans e2_16
          have e3_17 : Rv.ev a3 17 = .int .i64 tz := hv 7 (by decide)
          have e3_18 : Rv.ev a3 18 = .int .i64 ez := hv 8 (by decide)
          have hSw10 := hSw9.up hB
          have HBw10 : Hid (Below w.heap.size w w10) := Below.thn HBw9.out hB
          clear sz2 df2 e2_7 e2_9 e2_10 e2_11 e2_12 e2_13 e2_14 e2_15 e2_16
          clear hO hB hv hK hSw9
          refine wp_seq_k fun K hK => ?_
          have hbv := below_alloc w10 (.cells #[x0, x1, x2, x3, x4, x5, x6, y0, y1, y2, y3, y4, y5, y6, z0, z1, z2, z3, z4, z5, z6] 40)
          have hSv := hSw10.up hbv
          have hxv := three_ex hSv.hx hSv.hy hSv.hz (bl := w10.heap.size) (Bk.new w10 40 #[x0, x1, x2, x3, x4, x5, x6, y0, y1, y2, y3, y4, y5, y6, z0, z1, z2, z3, z4, z5, z6])
          have m := of_ok (c := c2) (cap := cp) HOK.out HLN.out hSv.fl hSv.pl.q HLP.out (by omega) hxv (ifE_wf HLx.out HLy.out HLz.out) (by rw [ifE_sz]; omega)
          have HI := if_of HLx.out HLy.out HLz.out (ff := funF gs) (ps := ps)
          obtain ⟨⟨wi, hi⟩, hq⟩ : ∃ q, q = ofP (funF gs) ps (ifE x y z) := ⟨_, rfl⟩
          rw [← hq, HTx.out, HTy.out, HTz.out] at HI
          rw [← hq] at m
          dsimp only at m HI
          clear hq hxv
          refine wp_region_list ?_
          refine turn13 (X0 := w10) (b7 := b7) (Bx := b10) (By := b11) (Bz := b12) (G := G) (L := gs.length) (c2 := c2) (np := ps.length) (cp := cp) (ap := ap) (tt_ := wi) (ee := hi) (x0 := x0) (x1 := x1) (x2 := x2) (x3 := x3) (x4 := x4) (x5 := x5) (x6 := x6) (y0 := y0) (y1 := y1) (y2 := y2) (y3 := y3) (y4 := y4) (y5 := y5) (y6 := y6) (z0 := z0) (z1 := z1) (z2 := z2) (z3 := z3) (z4 := z4) (z5 := z5) (z6 := z6) (hSw10.prog.cell 0) (Bk.seven hSw10.bx) (Bk.seven hSw10.by_) (Bk.seven hSw10.bz) m sz3 e3_7 e3_9 e3_10 e3_11 e3_12 ?_
          intro a4 u1 hO hB hv
          refine hK a4 u1 ?_
          have sz4 : 251 ≤ a4.tmps.size := by rw [hO.size]; exact sz3
          have df4 : a4.defers = [] := hO.def_.trans df3
          have e4_7 : Rv.ev a4 7 = .pointer (some ⟨b7, 0, none⟩) := (hO.same 7 (by decide)).trans e3_7
          have e4_9 : Rv.ev a4 9 = .slice ap ps.length cp := (hO.same 9 (by decide)).trans e3_9
          have e4_10 : Rv.ev a4 10 = .pointer (some ⟨b10, 0, none⟩) := (hO.same 10 (by decide)).trans e3_10
          have e4_11 : Rv.ev a4 11 = .pointer (some ⟨b11, 0, none⟩) := (hO.same 11 (by decide)).trans e3_11
          have e4_12 : Rv.ev a4 12 = .pointer (some ⟨b12, 0, none⟩) := (hO.same 12 (by decide)).trans e3_12
          have e4_13 : Rv.ev a4 13 = .int .i64 tx := (hO.same 13 (by decide)).trans e3_13
          have e4_14 : Rv.ev a4 14 = .int .i64 ex := (hO.same 14 (by decide)).trans e3_14
          have e4_15 : Rv.ev a4 15 = .int .i64 ty := (hO.same 15 (by decide)).trans e3_15
          have e4_16 : Rv.ev a4 16 = .int .i64 ey := (hO.same 16 (by decide)).trans e3_16
          have e4_17 : Rv.ev a4 17 = .int .i64 tz := (hO.same 17 (by decide)).trans e3_17
          have e4_18 : Rv.ev a4 18 = .int .i64 ez := (hO.same 18 (by decide)).trans e3_18
          have e4_19 : Rv.ev a4 19 = .int .i64 wi := hv 11 (by decide)
          have e4_20 : Rv.ev a4 20 = .int .i64 hi := hv 12 (by decide)
          have hSu1 := hSv.up hB
          have HBu1 : Hid (Below w.heap.size w u1) := Below.thn (Below.thn HBw10.out hbv) hB
          clear sz3 df3 e3_7 e3_9 e3_10 e3_11 e3_12 e3_13 e3_14 e3_15 e3_16 e3_17 e3_18
          clear hO hB hv hK hSw10 m hbv hSv
          refine wp_seq_k fun K hK => ?_
          refine wp_seq_k fun K2 hK2 => ?_
          refine wp_region_list ?_
          refine ekAll (X0 := u1) HI sz4 e4_20 e4_19 e4_14 e4_13 e4_16 e4_15 e4_18 e4_17 (Below.refl _ _) ?_
          intro a5 v1 hO hB he
          refine hK2 a5 v1 (wp_cond_false he (wp_skip (hK a5 v1 ?_)))
          have sz5 : 251 ≤ a5.tmps.size := by rw [hO.size]; exact sz4
          have df5 : a5.defers = [] := hO.def_.trans df4
          have e5_7 : Rv.ev a5 7 = .pointer (some ⟨b7, 0, none⟩) := (hO.same 7 (by decide)).trans e4_7
          have e5_9 : Rv.ev a5 9 = .slice ap ps.length cp := (hO.same 9 (by decide)).trans e4_9
          have e5_10 : Rv.ev a5 10 = .pointer (some ⟨b10, 0, none⟩) := (hO.same 10 (by decide)).trans e4_10
          have e5_11 : Rv.ev a5 11 = .pointer (some ⟨b11, 0, none⟩) := (hO.same 11 (by decide)).trans e4_11
          have e5_12 : Rv.ev a5 12 = .pointer (some ⟨b12, 0, none⟩) := (hO.same 12 (by decide)).trans e4_12
          have e5_13 : Rv.ev a5 13 = .int .i64 tx := (hO.same 13 (by decide)).trans e4_13
          have e5_14 : Rv.ev a5 14 = .int .i64 ex := (hO.same 14 (by decide)).trans e4_14
          have e5_15 : Rv.ev a5 15 = .int .i64 ty := (hO.same 15 (by decide)).trans e4_15
          have e5_16 : Rv.ev a5 16 = .int .i64 ey := (hO.same 16 (by decide)).trans e4_16
          have e5_17 : Rv.ev a5 17 = .int .i64 tz := (hO.same 17 (by decide)).trans e4_17
          have e5_18 : Rv.ev a5 18 = .int .i64 ez := (hO.same 18 (by decide)).trans e4_18
          have e5_19 : Rv.ev a5 19 = .int .i64 wi := (hO.same 19 (by decide)).trans e4_19
          have e5_20 : Rv.ev a5 20 = .int .i64 hi := (hO.same 20 (by decide)).trans e4_20
          have hSv1 := hSu1.up hB
          have HBv1 : Hid (Below w.heap.size w v1) := Below.thn HBu1.out hB
          clear sz4 df4 e4_7 e4_9 e4_10 e4_11 e4_12 e4_13 e4_14 e4_15 e4_16 e4_17 e4_18 e4_19 e4_20
          clear hO hB he hK hK2 hSu1 HI
          refine wp_seq_k fun K hK => ?_
          have hbv := below_alloc v1 (.cells #[x0, x1, x2, x3, x4, x5, x6, y0, y1, y2, y3, y4, y5, y6] 40)
          have hSv := hSv1.up hbv
          have hxv := two_ex hSv.hx hSv.hy (bl := v1.heap.size) (Bk.new v1 40 #[x0, x1, x2, x3, x4, x5, x6, y0, y1, y2, y3, y4, y5, y6]) 18
          have m := of_ok (c := c2) (cap := cp) HOK.out HLN.out hSv.fl hSv.pl.q HLP.out (by omega) hxv (biE_wf (.inl rfl) HLx.out HLy.out) (by rw [biE_sz]; omega)
          have HI := bi_of cons_ok (.inl rfl) (.inr (.inr rfl)) (.inr (.inr rfl)) HLx.out HLy.out (ff := funF gs) (ps := ps)
          obtain ⟨⟨wi, hi⟩, hq⟩ : ∃ q, q = ofP (funF gs) ps (biE 18 x y) := ⟨_, rfl⟩
          rw [← hq, HTx.out, HTy.out] at HI
          rw [← hq] at m
          dsimp only at m HI
          clear hq hxv
          refine wp_region_list ?_
          refine turn16 (X0 := v1) (b7 := b7) (Bx := b10) (By := b11) (G := G) (L := gs.length) (c2 := c2) (np := ps.length) (cp := cp) (ap := ap) (tt_ := wi) (ee := hi) (x0 := x0) (x1 := x1) (x2 := x2) (x3 := x3) (x4 := x4) (x5 := x5) (x6 := x6) (y0 := y0) (y1 := y1) (y2 := y2) (y3 := y3) (y4 := y4) (y5 := y5) (y6 := y6) (hSv1.prog.cell 0) (Bk.seven hSv1.bx) (Bk.seven hSv1.by_) m sz5 e5_7 e5_9 e5_10 e5_11 ?_
          intro a6 u2 hO hB hv
          refine hK a6 u2 ?_
          have sz6 : 251 ≤ a6.tmps.size := by rw [hO.size]; exact sz5
          have df6 : a6.defers = [] := hO.def_.trans df5
          have e6_7 : Rv.ev a6 7 = .pointer (some ⟨b7, 0, none⟩) := (hO.same 7 (by decide)).trans e5_7
          have e6_9 : Rv.ev a6 9 = .slice ap ps.length cp := (hO.same 9 (by decide)).trans e5_9
          have e6_10 : Rv.ev a6 10 = .pointer (some ⟨b10, 0, none⟩) := (hO.same 10 (by decide)).trans e5_10
          have e6_11 : Rv.ev a6 11 = .pointer (some ⟨b11, 0, none⟩) := (hO.same 11 (by decide)).trans e5_11
          have e6_12 : Rv.ev a6 12 = .pointer (some ⟨b12, 0, none⟩) := (hO.same 12 (by decide)).trans e5_12
          have e6_13 : Rv.ev a6 13 = .int .i64 tx := (hO.same 13 (by decide)).trans e5_13
          have e6_14 : Rv.ev a6 14 = .int .i64 ex := (hO.same 14 (by decide)).trans e5_14
          have e6_15 : Rv.ev a6 15 = .int .i64 ty := (hO.same 15 (by decide)).trans e5_15
          have e6_16 : Rv.ev a6 16 = .int .i64 ey := (hO.same 16 (by decide)).trans e5_16
          have e6_17 : Rv.ev a6 17 = .int .i64 tz := (hO.same 17 (by decide)).trans e5_17
          have e6_18 : Rv.ev a6 18 = .int .i64 ez := (hO.same 18 (by decide)).trans e5_18
          have e6_19 : Rv.ev a6 19 = .int .i64 wi := hv 10 (by decide)
          have e6_20 : Rv.ev a6 20 = .int .i64 hi := hv 11 (by decide)
          have hSu2 := hSv.up hB
          have HBu2 : Hid (Below w.heap.size w u2) := Below.thn (Below.thn HBv1.out hbv) hB
          clear sz5 df5 e5_7 e5_9 e5_10 e5_11 e5_12 e5_13 e5_14 e5_15 e5_16 e5_17 e5_18 e5_19 e5_20
          clear hO hB hv hK hSv1 m hbv hSv
          refine wp_seq_k fun K hK => ?_
          refine wp_seq_k fun K2 hK2 => ?_
          refine wp_region_list ?_
          refine elAll (X0 := u2) HI sz6 e6_20 e6_19 e6_14 e6_13 e6_16 e6_15 (Below.refl _ _) ?_
          intro a7 v2 hO hB he
          refine hK2 a7 v2 (wp_cond_false he (wp_skip (hK a7 v2 ?_)))
          have sz7 : 251 ≤ a7.tmps.size := by rw [hO.size]; exact sz6
          have df7 : a7.defers = [] := hO.def_.trans df6
          have e7_7 : Rv.ev a7 7 = .pointer (some ⟨b7, 0, none⟩) := (hO.same 7 (by decide)).trans e6_7
          have e7_9 : Rv.ev a7 9 = .slice ap ps.length cp := (hO.same 9 (by decide)).trans e6_9
          have e7_10 : Rv.ev a7 10 = .pointer (some ⟨b10, 0, none⟩) := (hO.same 10 (by decide)).trans e6_10
          have e7_11 : Rv.ev a7 11 = .pointer (some ⟨b11, 0, none⟩) := (hO.same 11 (by decide)).trans e6_11
          have e7_12 : Rv.ev a7 12 = .pointer (some ⟨b12, 0, none⟩) := (hO.same 12 (by decide)).trans e6_12
          have e7_13 : Rv.ev a7 13 = .int .i64 tx := (hO.same 13 (by decide)).trans e6_13
          have e7_14 : Rv.ev a7 14 = .int .i64 ex := (hO.same 14 (by decide)).trans e6_14
          have e7_15 : Rv.ev a7 15 = .int .i64 ty := (hO.same 15 (by decide)).trans e6_15
          have e7_16 : Rv.ev a7 16 = .int .i64 ey := (hO.same 16 (by decide)).trans e6_16
          have e7_17 : Rv.ev a7 17 = .int .i64 tz := (hO.same 17 (by decide)).trans e6_17
          have e7_18 : Rv.ev a7 18 = .int .i64 ez := (hO.same 18 (by decide)).trans e6_18
          have e7_19 : Rv.ev a7 19 = .int .i64 wi := (hO.same 19 (by decide)).trans e6_19
          have e7_20 : Rv.ev a7 20 = .int .i64 hi := (hO.same 20 (by decide)).trans e6_20
          have hSv2 := hSu2.up hB
          have HBv2 : Hid (Below w.heap.size w v2) := Below.thn HBu2.out hB
          clear sz6 df6 e6_7 e6_9 e6_10 e6_11 e6_12 e6_13 e6_14 e6_15 e6_16 e6_17 e6_18 e6_19 e6_20
          clear hO hB he hK hK2 hSu2 HI
          refine wp_seq_k fun K hK => ?_
          have hbv := below_alloc v2 (.cells #[x0, x1, x2, x3, x4, x5, x6, z0, z1, z2, z3, z4, z5, z6] 40)
          have hSv := hSv2.up hbv
          have hxv := two_ex hSv.hx hSv.hz (bl := v2.heap.size) (Bk.new v2 40 #[x0, x1, x2, x3, x4, x5, x6, z0, z1, z2, z3, z4, z5, z6]) 13
          have m := of_ok (c := c2) (cap := cp) HOK.out HLN.out hSv.fl hSv.pl.q HLP.out (by omega) hxv (biE_wf (.inr (.inr (.inl rfl))) HLx.out HLz.out) (by rw [biE_sz]; omega)
          have HI := bi_of less_ok (.inl rfl) (.inl rfl) (.inr (.inl rfl)) HLx.out HLz.out (ff := funF gs) (ps := ps)
          obtain ⟨⟨wi, hi⟩, hq⟩ : ∃ q, q = ofP (funF gs) ps (biE 13 x z) := ⟨_, rfl⟩
          rw [← hq, HTx.out, HTz.out] at HI
          rw [← hq] at m
          dsimp only at m HI
          clear hq hxv
          refine wp_region_list ?_
          refine turn19 (X0 := v2) (b7 := b7) (Bx := b10) (Bz := b12) (G := G) (L := gs.length) (c2 := c2) (np := ps.length) (cp := cp) (ap := ap) (tt_ := wi) (ee := hi) (x0 := x0) (x1 := x1) (x2 := x2) (x3 := x3) (x4 := x4) (x5 := x5) (x6 := x6) (z0 := z0) (z1 := z1) (z2 := z2) (z3 := z3) (z4 := z4) (z5 := z5) (z6 := z6) (hSv2.prog.cell 0) (Bk.seven hSv2.bx) (Bk.seven hSv2.bz) m sz7 e7_7 e7_9 e7_10 e7_12 ?_
          intro a8 u3 hO hB hv
          refine hK a8 u3 ?_
          have sz8 : 251 ≤ a8.tmps.size := by rw [hO.size]; exact sz7
          have df8 : a8.defers = [] := hO.def_.trans df7
          have e8_7 : Rv.ev a8 7 = .pointer (some ⟨b7, 0, none⟩) := (hO.same 7 (by decide)).trans e7_7
          have e8_9 : Rv.ev a8 9 = .slice ap ps.length cp := (hO.same 9 (by decide)).trans e7_9
          have e8_10 : Rv.ev a8 10 = .pointer (some ⟨b10, 0, none⟩) := (hO.same 10 (by decide)).trans e7_10
          have e8_11 : Rv.ev a8 11 = .pointer (some ⟨b11, 0, none⟩) := (hO.same 11 (by decide)).trans e7_11
          have e8_12 : Rv.ev a8 12 = .pointer (some ⟨b12, 0, none⟩) := (hO.same 12 (by decide)).trans e7_12
          have e8_13 : Rv.ev a8 13 = .int .i64 tx := (hO.same 13 (by decide)).trans e7_13
          have e8_14 : Rv.ev a8 14 = .int .i64 ex := (hO.same 14 (by decide)).trans e7_14
          have e8_15 : Rv.ev a8 15 = .int .i64 ty := (hO.same 15 (by decide)).trans e7_15
          have e8_16 : Rv.ev a8 16 = .int .i64 ey := (hO.same 16 (by decide)).trans e7_16
          have e8_17 : Rv.ev a8 17 = .int .i64 tz := (hO.same 17 (by decide)).trans e7_17
          have e8_18 : Rv.ev a8 18 = .int .i64 ez := (hO.same 18 (by decide)).trans e7_18
          have e8_19 : Rv.ev a8 19 = .int .i64 wi := hv 10 (by decide)
          have e8_20 : Rv.ev a8 20 = .int .i64 hi := hv 11 (by decide)
          have hSu3 := hSv.up hB
          have HBu3 : Hid (Below w.heap.size w u3) := Below.thn (Below.thn HBv2.out hbv) hB
          clear sz7 df7 e7_7 e7_9 e7_10 e7_11 e7_12 e7_13 e7_14 e7_15 e7_16 e7_17 e7_18 e7_19 e7_20
          clear hO hB hv hK hSv2 m hbv hSv
          refine wp_seq_k fun K hK => ?_
          refine wp_seq_k fun K2 hK2 => ?_
          refine wp_region_list ?_
          refine emAll (X0 := u3) HI sz8 e8_20 e8_19 e8_14 e8_13 e8_18 e8_17 (Below.refl _ _) ?_
          intro a9 v3 hO hB he
          refine hK2 a9 v3 (wp_cond_false he (wp_skip (hK a9 v3 ?_)))
          have sz9 : 251 ≤ a9.tmps.size := by rw [hO.size]; exact sz8
          have df9 : a9.defers = [] := hO.def_.trans df8
          have e9_7 : Rv.ev a9 7 = .pointer (some ⟨b7, 0, none⟩) := (hO.same 7 (by decide)).trans e8_7
          have e9_9 : Rv.ev a9 9 = .slice ap ps.length cp := (hO.same 9 (by decide)).trans e8_9
          have e9_10 : Rv.ev a9 10 = .pointer (some ⟨b10, 0, none⟩) := (hO.same 10 (by decide)).trans e8_10
          have e9_11 : Rv.ev a9 11 = .pointer (some ⟨b11, 0, none⟩) := (hO.same 11 (by decide)).trans e8_11
          have e9_12 : Rv.ev a9 12 = .pointer (some ⟨b12, 0, none⟩) := (hO.same 12 (by decide)).trans e8_12
          have e9_13 : Rv.ev a9 13 = .int .i64 tx := (hO.same 13 (by decide)).trans e8_13
          have e9_14 : Rv.ev a9 14 = .int .i64 ex := (hO.same 14 (by decide)).trans e8_14
          have e9_15 : Rv.ev a9 15 = .int .i64 ty := (hO.same 15 (by decide)).trans e8_15
          have e9_16 : Rv.ev a9 16 = .int .i64 ey := (hO.same 16 (by decide)).trans e8_16
          have e9_17 : Rv.ev a9 17 = .int .i64 tz := (hO.same 17 (by decide)).trans e8_17
          have e9_18 : Rv.ev a9 18 = .int .i64 ez := (hO.same 18 (by decide)).trans e8_18
          have e9_19 : Rv.ev a9 19 = .int .i64 wi := (hO.same 19 (by decide)).trans e8_19
          have e9_20 : Rv.ev a9 20 = .int .i64 hi := (hO.same 20 (by decide)).trans e8_20
          have hSv3 := hSu3.up hB
          have HBv3 : Hid (Below w.heap.size w v3) := Below.thn HBu3.out hB
          clear sz8 df8 e8_7 e8_9 e8_10 e8_11 e8_12 e8_13 e8_14 e8_15 e8_16 e8_17 e8_18 e8_19 e8_20
          clear hO hB he hK hK2 hSu3 HI
          refine wp_seq_k fun K hK => ?_
          have hbv := below_alloc v3 (.cells #[z0, z1, z2, z3, z4, z5, z6, x0, x1, x2, x3, x4, x5, x6] 40)
          have hSv := hSv3.up hbv
          have hxv := two_ex hSv.hz hSv.hx (bl := v3.heap.size) (Bk.new v3 40 #[z0, z1, z2, z3, z4, z5, z6, x0, x1, x2, x3, x4, x5, x6]) 10
          have m := of_ok (c := c2) (cap := cp) HOK.out HLN.out hSv.fl hSv.pl.q HLP.out (by omega) hxv (biE_wf (.inr (.inr (.inr (.inr (.inr (.inl rfl)))))) HLz.out HLx.out) (by rw [biE_sz]; omega)
          have HI := bi_of mul_ok (.inl rfl) (.inl rfl) (.inl rfl) HLz.out HLx.out (ff := funF gs) (ps := ps)
          obtain ⟨⟨wi, hi⟩, hq⟩ : ∃ q, q = ofP (funF gs) ps (biE 10 z x) := ⟨_, rfl⟩
          rw [← hq, HTz.out, HTx.out] at HI
          rw [← hq] at m
          dsimp only at m HI
          clear hq hxv
          refine wp_region_list ?_
          refine turn22 (X0 := v3) (b7 := b7) (Bz := b12) (Bx := b10) (G := G) (L := gs.length) (c2 := c2) (np := ps.length) (cp := cp) (ap := ap) (tt_ := wi) (ee := hi) (z0 := z0) (z1 := z1) (z2 := z2) (z3 := z3) (z4 := z4) (z5 := z5) (z6 := z6) (x0 := x0) (x1 := x1) (x2 := x2) (x3 := x3) (x4 := x4) (x5 := x5) (x6 := x6) (hSv3.prog.cell 0) (Bk.seven hSv3.bz) (Bk.seven hSv3.bx) m sz9 e9_7 e9_9 e9_12 e9_10 ?_
          intro a10 u4 hO hB hv
          refine hK a10 u4 ?_
          have sz10 : 251 ≤ a10.tmps.size := by rw [hO.size]; exact sz9
          have df10 : a10.defers = [] := hO.def_.trans df9
          have e10_7 : Rv.ev a10 7 = .pointer (some ⟨b7, 0, none⟩) := (hO.same 7 (by decide)).trans e9_7
          have e10_9 : Rv.ev a10 9 = .slice ap ps.length cp := (hO.same 9 (by decide)).trans e9_9
          have e10_10 : Rv.ev a10 10 = .pointer (some ⟨b10, 0, none⟩) := (hO.same 10 (by decide)).trans e9_10
          have e10_11 : Rv.ev a10 11 = .pointer (some ⟨b11, 0, none⟩) := (hO.same 11 (by decide)).trans e9_11
          have e10_12 : Rv.ev a10 12 = .pointer (some ⟨b12, 0, none⟩) := (hO.same 12 (by decide)).trans e9_12
          have e10_13 : Rv.ev a10 13 = .int .i64 tx := (hO.same 13 (by decide)).trans e9_13
          have e10_14 : Rv.ev a10 14 = .int .i64 ex := (hO.same 14 (by decide)).trans e9_14
          have e10_15 : Rv.ev a10 15 = .int .i64 ty := (hO.same 15 (by decide)).trans e9_15
          have e10_16 : Rv.ev a10 16 = .int .i64 ey := (hO.same 16 (by decide)).trans e9_16
          have e10_17 : Rv.ev a10 17 = .int .i64 tz := (hO.same 17 (by decide)).trans e9_17
          have e10_18 : Rv.ev a10 18 = .int .i64 ez := (hO.same 18 (by decide)).trans e9_18
          have e10_19 : Rv.ev a10 19 = .int .i64 wi := hv 10 (by decide)
          have e10_20 : Rv.ev a10 20 = .int .i64 hi := hv 11 (by decide)
          have hSu4 := hSv.up hB
          have HBu4 : Hid (Below w.heap.size w u4) := Below.thn (Below.thn HBv3.out hbv) hB
          clear sz9 df9 e9_7 e9_9 e9_10 e9_11 e9_12 e9_13 e9_14 e9_15 e9_16 e9_17 e9_18 e9_19 e9_20
          clear hO hB hv hK hSv3 m hbv hSv
          refine wp_seq_k fun K hK => ?_
          refine wp_region_list ?_
          refine enAll (X0 := u4) HI sz10 e10_20 e10_19 e10_14 e10_13 e10_18 e10_17 (Below.refl _ _) ?_
          intro a11 v4 hO hB e6
          refine hK a11 v4 (wp_ret ?_)
          have e6' : a11.tmps[6]?.getD undef = .bool true := by rw [← e6]; simp [Rv.ev, Act.eval]
          exact bodyPost_ret (v := .bool true) (by simp only [results, Try.results5]; simp [go_sem, e6']) (hO.def_.trans df10) ⟨rfl, Below.thn HBu4.out hB⟩
        · have g : (qy != 0) = true := by simpa using hy
          go_wp2_with fail
          go_ret
          exact ⟨rfl, HB4.out⟩
      · have g3 : ((gs.length : Int) != 3) = true := by simp; omega
        go_wp2_with fail
        go_ret
        exact ⟨rfl, HB3.out⟩
    · have HB3 : Hid (Below w.heap.size w wc) := hB7
      have p3 : wc.cell? ⟨b7, 0, none⟩ = some (.slice none 0 0) := hP3.cell 0
      clear m2 R e1 e2 e3 e4 e5 e6 hB1 hB7
      go_wp2_with fail
      go_ret
      exact ⟨rfl, HB3.out⟩end Go.Proofs.Ytkbglnhdbnijlaa
