/-
  The walk of RowsPairs.
-/
import Derived.Test.YtmckdefemdcknaaJt
import Derived.Test.YtmckdefemdcknaaNt
import Derived.Deep.DeepCutAuto
import Derived.Deep.RegionHeld
namespace Go.Proofs.Ytmckdefemdcknaa
open Go.RowKit
open RowsM

theorem Rd.drew {w : World} {ao : Option Addr} {xs : List Nat} (h : Rd w ao xs) : Rd w.drew ao xs := ⟨h.lt, h.pl⟩

/-- The two arguments, as they lie. -/
def Env (w : World) (b : Nat) (n m : Int) (ao bo : Option Addr) (ca cb : Nat) (xs ys : List Nat) : Prop :=
  St w b (.int .i64 n) (.slice ao xs.length ca) ∧ St w (b + 1) (.int .i64 m) (.slice bo ys.length cb) ∧ Rd w ao xs ∧ Rd w bo ys

theorem Env.up {w w' : World} {b : Nat} {n m : Int} {ao bo : Option Addr} {ca cb : Nat} {xs ys : List Nat} (h : Env w b n m ao bo ca cb xs ys) (hb : Below w.heap.size w w') : Env w' b n m ao bo ca cb xs ys :=
  ⟨h.1.up hb, h.2.1.up hb, h.2.2.1.up hb, h.2.2.2.up hb⟩
theorem Env.drew {w : World} {b : Nat} {n m : Int} {ao bo : Option Addr} {ca cb : Nat} {xs ys : List Nat} (h : Env w b n m ao bo ca cb xs ys) : Env w.drew b n m ao bo ca cb xs ys :=
  ⟨h.1, h.2.1, h.2.2.1.drew, h.2.2.2.drew⟩

section
variable {w : World} {b : Nat} {n m : Int} {ao bo : Option Addr} {ca cb : Nat} {xs ys : List Nat}
theorem Env.cl (h : Env w b n m ao bo ca cb xs ys) : w.cell? ⟨b, 0, none⟩ = some (.int .i64 n) ∧ w.cell? ⟨b, 1, none⟩ = some (.slice ao xs.length ca) ∧ w.cell? ⟨b + 1, 0, none⟩ = some (.int .i64 m) ∧ w.cell? ⟨b + 1, 1, none⟩ = some (.slice bo ys.length cb) :=
  ⟨h.1.cells.1, h.1.cells.2.1, h.2.1.cells.1, h.2.1.cells.2.1⟩
theorem Env.cla (h : Env w b n m ao bo ca cb xs ys) (o : Obj) : (w.alloc o).cell? ⟨b, 0, none⟩ = some (.int .i64 n) ∧ (w.alloc o).cell? ⟨b, 1, none⟩ = some (.slice ao xs.length ca) ∧ (w.alloc o).cell? ⟨b + 1, 0, none⟩ = some (.int .i64 m) ∧ (w.alloc o).cell? ⟨b + 1, 1, none⟩ = some (.slice bo ys.length cb) :=
  (h.up (below_alloc w o)).cl
theorem Env.cls (h : Env w b n m ao bo ca cb xs ys) {P : Nat} (hP : b + 1 < P) (u v : Value) : ((w.setCell ⟨P, 0, none⟩ u).setCell ⟨P, 1, none⟩ v).cell? ⟨b, 0, none⟩ = some (.int .i64 n) ∧ ((w.setCell ⟨P, 0, none⟩ u).setCell ⟨P, 1, none⟩ v).cell? ⟨b, 1, none⟩ = some (.slice ao xs.length ca) ∧ ((w.setCell ⟨P, 0, none⟩ u).setCell ⟨P, 1, none⟩ v).cell? ⟨b + 1, 0, none⟩ = some (.int .i64 m) ∧ ((w.setCell ⟨P, 0, none⟩ u).setCell ⟨P, 1, none⟩ v).cell? ⟨b + 1, 1, none⟩ = some (.slice bo ys.length cb) := by
  have hb : Below (b + 2) w ((w.setCell ⟨P, 0, none⟩ u).setCell ⟨P, 1, none⟩ v) := ((Below.refl _ _).setCell (by show b + 2 ≤ P; omega) _).setCell (by show b + 2 ≤ P; omega) _
  obtain ⟨h1, h2, h3, h4⟩ := h.cl
  exact ⟨(hb.cell (by show b < b + 2; omega)).trans h1, (hb.cell (by show b < b + 2; omega)).trans h2, (hb.cell (by show b + 1 < b + 2; omega)).trans h3, (hb.cell (by show b + 1 < b + 2; omega)).trans h4⟩
theorem Env.sz (h : Env w b n m ao bo ca cb xs ys) : b + 1 < w.heap.size := h.2.1.lt
end

theorem St.newd (w : World) (x y : Value) : St (w.alloc (.cells #[x, y] 24)).drew w.heap.size x y := St.new w x y

theorem st_set2 {w : World} {P : Nat} {x y : Value} (h : St w P x y) (u v : Value) : St ((w.setCell ⟨P, 0, none⟩ u).setCell ⟨P, 1, none⟩ v) P u v := by
  have h1 : St (w.setCell ⟨P, 0, none⟩ u) P u y := by
    unfold St
    rw [heap_setCell_same w P 0 _ _ _ h]
    rfl
  exact st_set h1 v

theorem Fresh.set2 {w w' : World} {so : Option Addr} {cap P : Nat} {L : List Nat} (h : Fresh w w' so cap L) (hP : P < w.heap.size) (u v : Value) : Rd ((w'.setCell ⟨P, 0, none⟩ u).setCell ⟨P, 1, none⟩ v) so L := by
  have hne : L ≠ [] → ∀ b off, so = some ⟨b, off, none⟩ → b ≠ P := by
    intro hL b off e
    rcases h.2 with ⟨_, _, hh⟩ | ⟨g, e2, _, _, hg⟩
    · exact absurd hh hL
    · rw [e2] at e; simp only [Option.some.injEq, Addr.mk.injEq] at e; omega
  exact (h.rd.other hne _).other hne _

set_option maxHeartbeats 20000000 in
theorem pairs_any (n m : Int) (ao bo : Option Addr) (ca cb : Nat) (xs ys : List Nat) (w : World) (d_x : Rd w ao xs) (d_y : Rd w bo ys) (l1 : xs.length ≤ 17592186043904) (l2 : ys.length ≤ 17592186043904) (k1 : ao = none → ca = 0) (k2 : bo = none → cb = 0) :
    Calls Try.prog 5 #[.agg #[.int .i64 n, .slice ao xs.length ca], .agg #[.int .i64 m, .slice bo ys.length cb]] w fun e w' => e = .returned (.bool true) ∧ Below w.heap.size w w' := by
  obtain ⟨s_x, s_y⟩ := st_two w (.int .i64 n) (.slice ao xs.length ca) (.int .i64 m) (.slice bo ys.length cb)
  have B := below_two w (.cells #[.int .i64 n, .slice ao xs.length ca] 24) (.cells #[.int .i64 m, .slice bo ys.length cb] 24)
  have hE : Env _ w.heap.size n m ao bo ca cb xs ys := ⟨s_x, s_y, d_x.up B, d_y.up B⟩
  clear s_x s_y d_x d_y
  have hJl : (opL joinW n m xs ys).length ≤ 17592186043904 := by
    unfold opL
    split
    · rw [List.length_zipWith]; omega
    · simp
  have hMl : (opL meetW n m xs ys).length ≤ 17592186043904 := by
    unfold opL
    split
    · rw [List.length_zipWith]; omega
    · simp
  have a1 := fun so ta c d w (h : Rd w so xs) (g : Rd w ta ys) => below_any n m so ta c d xs ys w h g l1 l2
  have a2 := fun so ta c d w (h : Rd w so xs) (g : Rd w ta ys) => refbelow_any n m so ta c d xs ys w h g l1 l2
  have a3 := fun so ta c d w (h : Rd w so xs) (g : Rd w ta ys) => join_any n m so ta c d xs ys w h g l1 l2
  have a4 := fun so ta c d w (h : Rd w so xs) (g : Rd w ta ys) => refjoin_any n m so ta c d xs ys w h g l1 l2
  have a5 := fun so ta c d w (h : Rd w so xs) (g : Rd w ta ys) => meet_any n m so ta c d xs ys w h g l1 l2
  have a6 := fun so ta c d w (h : Rd w so xs) (g : Rd w ta ys) => refmeet_any n m so ta c d xs ys w h g l1 l2
  generalize (okP n m xs ys && belowL xs ys) = C at *
  generalize (if okP n m xs ys then (0 : Int) else 3) = E at *
  generalize (if okP n m xs ys then n else 0) = N at *
  generalize opL joinW n m xs ys = J at *
  generalize opL meetW n m xs ys = M at *
  go_enter Try.func5, Try.ntmps5
  go_wp2_with fail
  refine (awake_any _).mono ?_
  rintro e W ⟨rfl, hb⟩
  replace hE := hE.up hb
  replace B := Below.thn B hb
  clear hb
  go_upto_region 3 with fail
  go_cut [5, 6] (fun v5 v6 wx => v5 = .bool C ∧ v6 = .int .i64 E ∧ Below W.heap.size W wx)
  case first =>
    have hD := hE
    have hDd := hE.drew
    have zW : w.heap.size + 1 < W.heap.size := hE.sz
    obtain ⟨x0, x1, y0, y1⟩ := hE.cl
    go_region_held (fun w' => w'.cell? ⟨w.heap.size, 0, none⟩ = some (.int .i64 n) ∧ w'.cell? ⟨w.heap.size, 1, none⟩ = some (.slice ao xs.length ca) ∧ w'.cell? ⟨w.heap.size + 1, 0, none⟩ = some (.int .i64 m) ∧ w'.cell? ⟨w.heap.size + 1, 1, none⟩ = some (.slice bo ys.length cb)) (first | exact Env.cl (by assumption) | exact Env.cla (by assumption) _ | exact ((hD.up (below_alloc _ _)).drew).cl | exact Env.cls (by assumption) (by omega) _ _) (first
      | (go_at_call_of 15 (Value.slice ao xs.length ca); refine (copied_any n ao ca xs _ (by refine Rd.up hD.2.2.1 ?_; repeat (first | exact Below.refl _ _ | refine Below.thn ?_ (below_alloc _ _) | refine Below.thn ?_ hbX | refine Below.thn ?_ hbY | refine Below.thn ?_ hbZ | refine Below.drew ?_)) l1 k1).mono ?_; rintro e wX ⟨aX, cX, rfl, dX, hbX⟩; have eX : Env wX w.heap.size n m ao bo ca cb xs ys := (by refine Env.up hD ?_; repeat (first | exact Below.refl _ _ | refine Below.thn ?_ (below_alloc _ _) | refine Below.thn ?_ hbX | refine Below.thn ?_ hbY | refine Below.thn ?_ hbZ | refine Below.drew ?_)); have zX := eX.sz; have qX := (show Below W.heap.size W wX from (by repeat (first | exact Below.refl _ _ | refine Below.thn ?_ (below_alloc _ _) | refine Below.thn ?_ hbX | refine Below.thn ?_ hbY | refine Below.thn ?_ hbZ | refine Below.drew ?_))).size)
      | (go_at_call_of 15 (Value.slice bo ys.length cb); refine (copied_any m bo cb ys _ (by refine Rd.up hD.2.2.2 ?_; repeat (first | exact Below.refl _ _ | refine Below.thn ?_ (below_alloc _ _) | refine Below.thn ?_ hbX | refine Below.thn ?_ hbY | refine Below.thn ?_ hbZ | refine Below.drew ?_)) l2 k2).mono ?_; rintro e wY ⟨aY, cY, rfl, dY, hbY⟩; have eY : Env wY w.heap.size n m ao bo ca cb xs ys := (by refine Env.up hD ?_; repeat (first | exact Below.refl _ _ | refine Below.thn ?_ (below_alloc _ _) | refine Below.thn ?_ hbX | refine Below.thn ?_ hbY | refine Below.thn ?_ hbZ | refine Below.drew ?_)); have zY := eY.sz; have qY := (show Below W.heap.size W wY from (by repeat (first | exact Below.refl _ _ | refine Below.thn ?_ (below_alloc _ _) | refine Below.thn ?_ hbX | refine Below.thn ?_ hbY | refine Below.thn ?_ hbZ | refine Below.drew ?_))).size)
      | (go_at_call 22; refine (a1 _ _ _ _ _ (by refine Rd.up dX ?_; repeat (first | exact Below.refl _ _ | refine Below.thn ?_ (below_alloc _ _) | refine Below.thn ?_ hbX | refine Below.thn ?_ hbY | refine Below.thn ?_ hbZ | refine Below.drew ?_)) (by refine Rd.up dY ?_; repeat (first | exact Below.refl _ _ | refine Below.thn ?_ (below_alloc _ _) | refine Below.thn ?_ hbX | refine Below.thn ?_ hbY | refine Below.thn ?_ hbZ | refine Below.drew ?_))).mono ?_; rintro e wZ ⟨rfl, hbZ⟩; have eZ : Env wZ w.heap.size n m ao bo ca cb xs ys := (by refine Env.up hD ?_; repeat (first | exact Below.refl _ _ | refine Below.thn ?_ (below_alloc _ _) | refine Below.thn ?_ hbX | refine Below.thn ?_ hbY | refine Below.thn ?_ hbZ | refine Below.drew ?_)); have zZ := eZ.sz; have qZ := (show Below W.heap.size W wZ from (by repeat (first | exact Below.refl _ _ | refine Below.thn ?_ (below_alloc _ _) | refine Below.thn ?_ hbX | refine Below.thn ?_ hbY | refine Below.thn ?_ hbZ | refine Below.drew ?_))).size))
    all_goals
      go_wp2_with fail
      go_meet
      case rel =>
        exact ⟨rfl, rfl, (by repeat (first | exact Below.refl _ _ | refine Below.thn ?_ (below_alloc _ _) | refine Below.thn ?_ hbX | refine Below.thn ?_ hbY | refine Below.thn ?_ hbZ | refine Below.drew ?_))⟩
  case rest =>
    obtain ⟨rfl, rfl, hb⟩ := hcut
    have hE2 := hE.up hb
    have B2 := Below.thn B hb
    clear B hE hb a1
    generalize wc = W2 at *
    obtain ⟨x0, x1, y0, y1⟩ := hE2.cl
    go_wp2_with fail
    refine (a2 ao bo ca cb _ hE2.2.2.1 hE2.2.2.2).mono ?_
    rintro e W3 ⟨rfl, hb⟩
    replace hE2 := hE2.up hb
    replace B2 := Below.thn B2 hb
    clear hb x0 x1 y0 y1 a2
    go_upto_region 5 with fail
    go_cut [9, 10] (fun vp ve wx => ∃ so cap blk, vp = .pointer (some ⟨blk, 0, none⟩) ∧ ve = .int .i64 E ∧ St wx blk (.int .i64 N) (.slice so J.length cap) ∧ Rd wx so J ∧ Below W3.heap.size W3 wx)
    case first =>
      have hD := hE2
      have hDd := hE2.drew
      have zW : w.heap.size + 1 < W3.heap.size := hE2.sz
      obtain ⟨x0, x1, y0, y1⟩ := hE2.cl
      go_region_held (fun w' => w'.cell? ⟨w.heap.size, 0, none⟩ = some (.int .i64 n) ∧ w'.cell? ⟨w.heap.size, 1, none⟩ = some (.slice ao xs.length ca) ∧ w'.cell? ⟨w.heap.size + 1, 0, none⟩ = some (.int .i64 m) ∧ w'.cell? ⟨w.heap.size + 1, 1, none⟩ = some (.slice bo ys.length cb)) (first | exact Env.cl (by assumption) | exact Env.cla (by assumption) _ | exact ((hD.up (below_alloc _ _)).drew).cl | exact Env.cls (by assumption) (by omega) _ _) (first
        | (go_at_call_of 15 (Value.slice ao xs.length ca); refine (copied_any n ao ca xs _ (by refine Rd.up hD.2.2.1 ?_; repeat (first | exact Below.refl _ _ | refine Below.thn ?_ (below_alloc _ _) | refine Below.thn ?_ hbX | refine Below.thn ?_ hbY | refine Below.thn ?_ hbZ | refine Below.drew ?_)) l1 k1).mono ?_; rintro e wX ⟨aX, cX, rfl, dX, hbX⟩; have eX : Env wX w.heap.size n m ao bo ca cb xs ys := (by refine Env.up hD ?_; repeat (first | exact Below.refl _ _ | refine Below.thn ?_ (below_alloc _ _) | refine Below.thn ?_ hbX | refine Below.thn ?_ hbY | refine Below.thn ?_ hbZ | refine Below.drew ?_)); have zX := eX.sz; have qX := (show Below W3.heap.size W3 wX from (by repeat (first | exact Below.refl _ _ | refine Below.thn ?_ (below_alloc _ _) | refine Below.thn ?_ hbX | refine Below.thn ?_ hbY | refine Below.thn ?_ hbZ | refine Below.drew ?_))).size; first | (have sB := (St.new _ (Value.int .i64 0) (Value.slice none 0 0)).up hbX; obtain ⟨p0, p1, p2, p3⟩ := sB.cells) | (have sB := (St.newd _ (Value.int .i64 0) (Value.slice none 0 0)).up hbX; obtain ⟨p0, p1, p2, p3⟩ := sB.cells) | (have sB := sB.up hbX; obtain ⟨p0, p1, p2, p3⟩ := sB.cells) | skip)
        | (go_at_call_of 15 (Value.slice bo ys.length cb); refine (copied_any m bo cb ys _ (by refine Rd.up hD.2.2.2 ?_; repeat (first | exact Below.refl _ _ | refine Below.thn ?_ (below_alloc _ _) | refine Below.thn ?_ hbX | refine Below.thn ?_ hbY | refine Below.thn ?_ hbZ | refine Below.drew ?_)) l2 k2).mono ?_; rintro e wY ⟨aY, cY, rfl, dY, hbY⟩; have eY : Env wY w.heap.size n m ao bo ca cb xs ys := (by refine Env.up hD ?_; repeat (first | exact Below.refl _ _ | refine Below.thn ?_ (below_alloc _ _) | refine Below.thn ?_ hbX | refine Below.thn ?_ hbY | refine Below.thn ?_ hbZ | refine Below.drew ?_)); have zY := eY.sz; have qY := (show Below W3.heap.size W3 wY from (by repeat (first | exact Below.refl _ _ | refine Below.thn ?_ (below_alloc _ _) | refine Below.thn ?_ hbX | refine Below.thn ?_ hbY | refine Below.thn ?_ hbZ | refine Below.drew ?_))).size; first | (have sB := (St.new _ (Value.int .i64 0) (Value.slice none 0 0)).up hbY; obtain ⟨p0, p1, p2, p3⟩ := sB.cells) | (have sB := (St.newd _ (Value.int .i64 0) (Value.slice none 0 0)).up hbY; obtain ⟨p0, p1, p2, p3⟩ := sB.cells) | (have sB := sB.up hbY; obtain ⟨p0, p1, p2, p3⟩ := sB.cells) | skip)
        | (go_at_call 24; refine (a3 _ _ _ _ _ (by refine Rd.up dX ?_; repeat (first | exact Below.refl _ _ | refine Below.thn ?_ (below_alloc _ _) | refine Below.thn ?_ hbX | refine Below.thn ?_ hbY | refine Below.thn ?_ hbZ | refine Below.drew ?_)) (by refine Rd.up dY ?_; repeat (first | exact Below.refl _ _ | refine Below.thn ?_ (below_alloc _ _) | refine Below.thn ?_ hbX | refine Below.thn ?_ hbY | refine Below.thn ?_ hbZ | refine Below.drew ?_))).mono ?_; rintro e wZ ⟨so, cap, rfl, hf, hbZ⟩; have eZ : Env wZ w.heap.size n m ao bo ca cb xs ys := (by refine Env.up hD ?_; repeat (first | exact Below.refl _ _ | refine Below.thn ?_ (below_alloc _ _) | refine Below.thn ?_ hbX | refine Below.thn ?_ hbY | refine Below.thn ?_ hbZ | refine Below.drew ?_)); have zZ := eZ.sz; have qZ := (show Below W3.heap.size W3 wZ from (by repeat (first | exact Below.refl _ _ | refine Below.thn ?_ (below_alloc _ _) | refine Below.thn ?_ hbX | refine Below.thn ?_ hbY | refine Below.thn ?_ hbZ | refine Below.drew ?_))).size; first | (have sB := (St.new _ (Value.int .i64 0) (Value.slice none 0 0)).up hbZ; obtain ⟨p0, p1, p2, p3⟩ := sB.cells) | (have sB := (St.newd _ (Value.int .i64 0) (Value.slice none 0 0)).up hbZ; obtain ⟨p0, p1, p2, p3⟩ := sB.cells) | (have sP := sB.lt; have sB := sB.up hbZ; obtain ⟨p0, p1, p2, p3⟩ := sB.cells) | skip))
      all_goals
        go_wp2_with fail
        go_meet
        case rel =>
          first
            | exact ⟨so, cap, wZ.heap.size, rfl, rfl, St.new wZ _ _, hf.rd.alloc _, (by repeat (first | exact Below.refl _ _ | refine Below.thn ?_ (below_alloc _ _) | refine Below.thn ?_ hbX | refine Below.thn ?_ hbY | refine Below.thn ?_ hbZ | refine Below.drew ?_))⟩
            | exact ⟨so, cap, _, rfl, rfl, st_set2 sB _ _, hf.set2 (by first | exact sP | (simp; done) | (simp; omega)) _ _, (by refine Below.setCell (Below.setCell ?_ (by first | exact Nat.le_refl W3.heap.size | (show _ ≤ _; omega)) _) (by first | exact Nat.le_refl W3.heap.size | (show _ ≤ _; omega)) _; repeat (first | exact Below.refl _ _ | refine Below.thn ?_ (below_alloc _ _) | refine Below.thn ?_ hbX | refine Below.thn ?_ hbY | refine Below.thn ?_ hbZ | refine Below.drew ?_))⟩
    case rest =>
      obtain ⟨ao_j, ca_j, Pj, rfl, rfl, s_j, d_j, hb⟩ := hcut
      replace hE2 := hE2.up hb
      replace B2 := Below.thn B2 hb
      clear hb a3
      generalize wc = W4 at *
      obtain ⟨x0, x1, y0, y1⟩ := hE2.cl
      go_wp2_with fail
      refine (a4 ao bo ca cb _ hE2.2.2.1 hE2.2.2.2).mono ?_
      rintro e W5 ⟨ao_u, ca_u, rfl, d_u, hb⟩
      replace hE2 := (hE2.up hb).up (below_alloc _ (.cells #[.int .i64 N, .slice ao_u J.length ca_u] 24))
      replace s_j := (s_j.up hb).alloc (.cells #[.int .i64 N, .slice ao_u J.length ca_u] 24)
      replace d_j := (d_j.up hb).alloc (.cells #[.int .i64 N, .slice ao_u J.length ca_u] 24)
      replace d_u := d_u.alloc (.cells #[.int .i64 N, .slice ao_u J.length ca_u] 24)
      have s_u := St.new W5 (.int .i64 N) (.slice ao_u J.length ca_u)
      replace B2 := Below.thn (Below.thn B2 hb) (below_alloc _ (.cells #[.int .i64 N, .slice ao_u J.length ca_u] 24))
      clear hb x0 x1 y0 y1 a4
      go_upto_region 7 with fail
      generalize (W5.alloc (.cells #[.int .i64 N, .slice ao_u J.length ca_u] 24)) = W6 at *
      go_cut [13, 14] (fun vp ve wx => ∃ so cap blk, vp = .pointer (some ⟨blk, 0, none⟩) ∧ ve = .int .i64 E ∧ St wx blk (.int .i64 N) (.slice so M.length cap) ∧ Rd wx so M ∧ Below W6.heap.size W6 wx)
      case first =>
        have hD := hE2
        have hDd := hE2.drew
        have zW : w.heap.size + 1 < W6.heap.size := hE2.sz
        obtain ⟨x0, x1, y0, y1⟩ := hE2.cl
        go_region_held (fun w' => w'.cell? ⟨w.heap.size, 0, none⟩ = some (.int .i64 n) ∧ w'.cell? ⟨w.heap.size, 1, none⟩ = some (.slice ao xs.length ca) ∧ w'.cell? ⟨w.heap.size + 1, 0, none⟩ = some (.int .i64 m) ∧ w'.cell? ⟨w.heap.size + 1, 1, none⟩ = some (.slice bo ys.length cb)) (first | exact Env.cl (by assumption) | exact Env.cla (by assumption) _ | exact ((hD.up (below_alloc _ _)).drew).cl | exact Env.cls (by assumption) (by omega) _ _) (first
          | (go_at_call_of 15 (Value.slice ao xs.length ca); refine (copied_any n ao ca xs _ (by refine Rd.up hD.2.2.1 ?_; repeat (first | exact Below.refl _ _ | refine Below.thn ?_ (below_alloc _ _) | refine Below.thn ?_ hbX | refine Below.thn ?_ hbY | refine Below.thn ?_ hbZ | refine Below.drew ?_)) l1 k1).mono ?_; rintro e wX ⟨aX, cX, rfl, dX, hbX⟩; have eX : Env wX w.heap.size n m ao bo ca cb xs ys := (by refine Env.up hD ?_; repeat (first | exact Below.refl _ _ | refine Below.thn ?_ (below_alloc _ _) | refine Below.thn ?_ hbX | refine Below.thn ?_ hbY | refine Below.thn ?_ hbZ | refine Below.drew ?_)); have zX := eX.sz; have qX := (show Below W6.heap.size W6 wX from (by repeat (first | exact Below.refl _ _ | refine Below.thn ?_ (below_alloc _ _) | refine Below.thn ?_ hbX | refine Below.thn ?_ hbY | refine Below.thn ?_ hbZ | refine Below.drew ?_))).size; first | (have sB := (St.new _ (Value.int .i64 0) (Value.slice none 0 0)).up hbX; obtain ⟨p0, p1, p2, p3⟩ := sB.cells) | (have sB := (St.newd _ (Value.int .i64 0) (Value.slice none 0 0)).up hbX; obtain ⟨p0, p1, p2, p3⟩ := sB.cells) | (have sB := sB.up hbX; obtain ⟨p0, p1, p2, p3⟩ := sB.cells) | skip)
          | (go_at_call_of 15 (Value.slice bo ys.length cb); refine (copied_any m bo cb ys _ (by refine Rd.up hD.2.2.2 ?_; repeat (first | exact Below.refl _ _ | refine Below.thn ?_ (below_alloc _ _) | refine Below.thn ?_ hbX | refine Below.thn ?_ hbY | refine Below.thn ?_ hbZ | refine Below.drew ?_)) l2 k2).mono ?_; rintro e wY ⟨aY, cY, rfl, dY, hbY⟩; have eY : Env wY w.heap.size n m ao bo ca cb xs ys := (by refine Env.up hD ?_; repeat (first | exact Below.refl _ _ | refine Below.thn ?_ (below_alloc _ _) | refine Below.thn ?_ hbX | refine Below.thn ?_ hbY | refine Below.thn ?_ hbZ | refine Below.drew ?_)); have zY := eY.sz; have qY := (show Below W6.heap.size W6 wY from (by repeat (first | exact Below.refl _ _ | refine Below.thn ?_ (below_alloc _ _) | refine Below.thn ?_ hbX | refine Below.thn ?_ hbY | refine Below.thn ?_ hbZ | refine Below.drew ?_))).size; first | (have sB := (St.new _ (Value.int .i64 0) (Value.slice none 0 0)).up hbY; obtain ⟨p0, p1, p2, p3⟩ := sB.cells) | (have sB := (St.newd _ (Value.int .i64 0) (Value.slice none 0 0)).up hbY; obtain ⟨p0, p1, p2, p3⟩ := sB.cells) | (have sB := sB.up hbY; obtain ⟨p0, p1, p2, p3⟩ := sB.cells) | skip)
          | (go_at_call 26; refine (a5 _ _ _ _ _ (by refine Rd.up dX ?_; repeat (first | exact Below.refl _ _ | refine Below.thn ?_ (below_alloc _ _) | refine Below.thn ?_ hbX | refine Below.thn ?_ hbY | refine Below.thn ?_ hbZ | refine Below.drew ?_)) (by refine Rd.up dY ?_; repeat (first | exact Below.refl _ _ | refine Below.thn ?_ (below_alloc _ _) | refine Below.thn ?_ hbX | refine Below.thn ?_ hbY | refine Below.thn ?_ hbZ | refine Below.drew ?_))).mono ?_; rintro e wZ ⟨so, cap, rfl, hf, hbZ⟩; have eZ : Env wZ w.heap.size n m ao bo ca cb xs ys := (by refine Env.up hD ?_; repeat (first | exact Below.refl _ _ | refine Below.thn ?_ (below_alloc _ _) | refine Below.thn ?_ hbX | refine Below.thn ?_ hbY | refine Below.thn ?_ hbZ | refine Below.drew ?_)); have zZ := eZ.sz; have qZ := (show Below W6.heap.size W6 wZ from (by repeat (first | exact Below.refl _ _ | refine Below.thn ?_ (below_alloc _ _) | refine Below.thn ?_ hbX | refine Below.thn ?_ hbY | refine Below.thn ?_ hbZ | refine Below.drew ?_))).size; first | (have sB := (St.new _ (Value.int .i64 0) (Value.slice none 0 0)).up hbZ; obtain ⟨p0, p1, p2, p3⟩ := sB.cells) | (have sB := (St.newd _ (Value.int .i64 0) (Value.slice none 0 0)).up hbZ; obtain ⟨p0, p1, p2, p3⟩ := sB.cells) | (have sP := sB.lt; have sB := sB.up hbZ; obtain ⟨p0, p1, p2, p3⟩ := sB.cells) | skip))
        all_goals
          go_wp2_with fail
          go_meet
          case rel =>
            first
              | exact ⟨so, cap, wZ.heap.size, rfl, rfl, St.new wZ _ _, hf.rd.alloc _, (by repeat (first | exact Below.refl _ _ | refine Below.thn ?_ (below_alloc _ _) | refine Below.thn ?_ hbX | refine Below.thn ?_ hbY | refine Below.thn ?_ hbZ | refine Below.drew ?_))⟩
              | exact ⟨so, cap, _, rfl, rfl, st_set2 sB _ _, hf.set2 (by first | exact sP | (simp; done) | (simp; omega)) _ _, (by refine Below.setCell (Below.setCell ?_ (by first | exact Nat.le_refl W6.heap.size | (show _ ≤ _; omega)) _) (by first | exact Nat.le_refl W6.heap.size | (show _ ≤ _; omega)) _; repeat (first | exact Below.refl _ _ | refine Below.thn ?_ (below_alloc _ _) | refine Below.thn ?_ hbX | refine Below.thn ?_ hbY | refine Below.thn ?_ hbZ | refine Below.drew ?_))⟩
      case rest =>
        obtain ⟨ao_m, ca_m, Pm, rfl, rfl, s_m, d_m, hb⟩ := hcut
        replace hE2 := hE2.up hb
        replace B2 := Below.thn B2 hb
        replace s_j := s_j.up hb
        replace d_j := d_j.up hb
        replace s_u := s_u.up hb
        replace d_u := d_u.up hb
        clear hb a5
        generalize wc = W7 at *
        obtain ⟨x0, x1, y0, y1⟩ := hE2.cl
        go_wp2_with fail
        refine (a6 ao bo ca cb _ hE2.2.2.1 hE2.2.2.2).mono ?_
        rintro e W8 ⟨ao_v, ca_v, rfl, d_v, hb⟩
        replace s_j := (s_j.up hb).alloc (.cells #[.int .i64 N, .slice ao_v M.length ca_v] 24)
        replace d_j := (d_j.up hb).alloc (.cells #[.int .i64 N, .slice ao_v M.length ca_v] 24)
        replace s_u := (s_u.up hb).alloc (.cells #[.int .i64 N, .slice ao_v M.length ca_v] 24)
        replace d_u := (d_u.up hb).alloc (.cells #[.int .i64 N, .slice ao_v M.length ca_v] 24)
        replace s_m := (s_m.up hb).alloc (.cells #[.int .i64 N, .slice ao_v M.length ca_v] 24)
        replace d_m := (d_m.up hb).alloc (.cells #[.int .i64 N, .slice ao_v M.length ca_v] 24)
        replace d_v := d_v.alloc (.cells #[.int .i64 N, .slice ao_v M.length ca_v] 24)
        have s_v := St.new W8 (.int .i64 N) (.slice ao_v M.length ca_v)
        replace B2 := Below.thn (Below.thn B2 hb) (below_alloc _ (.cells #[.int .i64 N, .slice ao_v M.length ca_v] 24))
        clear hb x0 x1 y0 y1 a6 hE2
        obtain ⟨j0, j1, _, _⟩ := s_j.cells
        obtain ⟨u0, u1, _, _⟩ := s_u.cells
        have ht1 := told_any N N ao_j ao_u ca_j ca_u J J E E _ d_j d_u hJl hJl
        have e1 : ((E == E) && sameR N N J J) = true := by unfold sameR; simp
        rw [e1] at ht1
        clear e1
        go_wp2_with fail
        refine ht1.mono ?_
        rintro e W9 ⟨rfl, hb⟩
        replace s_m := s_m.up hb
        replace d_m := d_m.up hb
        replace s_v := s_v.up hb
        replace d_v := d_v.up hb
        replace B2 := Below.thn B2 hb
        clear hb j0 j1 u0 u1 ht1 s_j d_j s_u d_u
        obtain ⟨m0, m1, _, _⟩ := s_m.cells
        obtain ⟨v0, v1, _, _⟩ := s_v.cells
        have ht2 := told_any N N ao_m ao_v ca_m ca_v M M E E _ d_m d_v hMl hMl
        have e2 : ((E == E) && sameR N N M M) = true := by unfold sameR; simp
        rw [e2] at ht2
        clear e2
        go_wp2_with fail
        refine ht2.mono ?_
        rintro e Wa ⟨rfl, hb⟩
        replace B2 := Below.thn B2 hb
        clear hb m0 m1 v0 v1 ht2 s_m d_m s_v d_v
        go_wp2
        go_ret
        exact ⟨rfl, B2⟩
end Go.Proofs.Ytmckdefemdcknaa
