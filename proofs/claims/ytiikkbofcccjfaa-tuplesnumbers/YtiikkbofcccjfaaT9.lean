/-
  The document's Of and Set.
-/
import Derived.Test.YtiikkbofcccjfaaT8
namespace Go.Proofs.Ytiikkbofcccjfaa
open Go.RowKit
open Go.Lib
open RowsM
set_option maxRecDepth 100000

/-- A table made of points. -/
def TabOf (ks : List Int) (t : Int) (cs : List Nat) (w : World) (e : Ending) (w' : World) : Prop :=
  ∃ po pc so cap L, e = .returned (.agg #[.slice po ks.length pc, .int .i64 t, .int .i64 (cs.length : Nat), .slice so L.length cap]) ∧ OwT w' w.heap.size (.slice po ks.length pc) ks ∧ Packed cs cs.length L ∧ Rd w' so L ∧ Below w.heap.size w w'

set_option maxHeartbeats 1000000 in
theorem of16_any (ks : List Int) (t : Int) (ao : Option Addr) (ca : Nat) (co : Option Addr) (cc : Nat) (cs : List Nat) (w : World) (h : Iz w ao ks) (hl : ks.length ≤ 17592186043904) (hcap : ao = none → ca = 0) (g : Ri w co cs) (gl : cs.length ≤ 4096) (g3 : ∀ c, c ∈ cs → c ≤ 3) :
    Calls Try.prog 48 #[.slice ao ks.length ca, .int .i64 t, .slice co cs.length cc] w fun e w' => TabOf ks t cs w e w' := by
  have s0 := S4.new w (.slice none 0 0) (.int .i64 0) (.int .i64 0) (.slice none 0 0)
  have b0 := below_alloc w (.cells #[.slice none 0 0, .int .i64 0, .int .i64 0, .slice none 0 0] 43)
  have h0 := h.up b0
  have g0 := g.up b0
  have hz0 : w.heap.size + 1 = (w.alloc (.cells #[.slice none 0 0, .int .i64 0, .int .i64 0, .slice none 0 0] 43)).heap.size := by simp
  have hcp := rcopiedT_any ks ao ca _ h0 hl hcap
  go_enter Try.func48, Try.ntmps48
  go_wp2_with fail
  refine hcp.mono ?_
  rintro e w1 ⟨⟨v, rfl, hO⟩, hb⟩
  have s1 := s0.up hb
  have g1 := g0.up hb
  have b1 := Below.thn b0 hb
  have z1 := hb.size
  rw [← hz0] at z1
  obtain ⟨po, pc, rfl, hiz, hpl, hpg⟩ := own_iz hO rfl
  have hpk := pack_any co cc cs w1 g1 gl g3
  have HO : Hid (w1.ownsRow (w.alloc (.cells #[.slice none 0 0, .int .i64 0, .int .i64 0, .slice none 0 0] 43)).heap.size 38 1 (.slice po ks.length pc) ks.length (ks.map fun z => .int .i64 z)) := hO
  clear hcp hO hiz hpl hpg s0 g0 b0 h0 h g
  go_wp2_with fail
  refine hpk.mono ?_
  rintro e w2 ⟨so, cap, L, rfl, hP, hrd, hb2, hnw⟩
  have s2 := s1.up hb2
  have b2 := Below.thn b1 hb2
  obtain ⟨q0, q1, q2, q3⟩ := s2.free
  obtain ⟨u0, u1, u2, u3⟩ := s2.cells
  have HO2 := owns_up HO.out hb2
  rw [← hz0] at HO2
  have HO3 : Hid (w2.ownsRow (w.heap.size + 1) 38 1 (.slice po ks.length pc) ks.length (ks.map fun z => .int .i64 z)) := HO2
  clear hpk s1 g1 b1 hb2 hnw HO HO2 hz0
  go_wp2
  refine bodyPost_ret (v := .agg #[.slice po ks.length pc, .int .i64 t, .int .i64 (cs.length : Nat), .slice so L.length cap]) (by simp [results, Try.results48, go_sem, u0, u1, u2, u3]) rfl ?_
  exact ⟨po, pc, so, cap, L, rfl, owns_mono (owns_set4 HO3.out (Nat.lt_succ_self _)) (Nat.le_succ _), hP, rd_set4 hrd s2 (by intro z hz; cases hz) (by intro z hz; cases hz) _ _ _ _, below_set4 b2 (Nat.le_refl _) _ _ _ _⟩

set_option maxHeartbeats 2000000 in
theorem rset_any (ks : List Int) (t n : Int) (xs : List Nat) (ao bo : Option Addr) (ca cb : Nat) (w : World) (h : TbW w ks xs ao bo ca cb) (ps : List Int) (co : Option Addr) (cc : Nat) (g : Iz w co ps) (gl : ps.length ≤ 17592186043904) (p : Int) (hcap : ao = none → ca = 0) :
    Calls Try.prog 26 #[.agg #[.slice ao ks.length ca, .int .i64 t, .int .i64 n, .slice bo xs.length cb], .slice co ps.length cc, .int .i64 p] w fun e w' => TabRd (setK ks t n xs ps p) (setT ks t n xs ps p) (setN ks t n xs ps p) (setE ks t n xs ps p) (setX ks t n xs ps p) w e w' := by
  have s0 := (S4.new w (.slice ao ks.length ca) (.int .i64 t) (.int .i64 n) (.slice bo xs.length cb)).alloc (.cells #[.slice none 0 0, .int .i64 0, .int .i64 0, .slice none 0 0] 43)
  have r0 := S4.new (w.alloc (.cells #[.slice ao ks.length ca, .int .i64 t, .int .i64 n, .slice bo xs.length cb] 43)) (.slice none 0 0) (.int .i64 0) (.int .i64 0) (.slice none 0 0)
  have b0 := (below_alloc w (.cells #[.slice ao ks.length ca, .int .i64 t, .int .i64 n, .slice bo xs.length cb] 43)).trans ((below_alloc (w.alloc (.cells #[.slice ao ks.length ca, .int .i64 t, .int .i64 n, .slice bo xs.length cb] 43)) (.cells #[.slice none 0 0, .int .i64 0, .int .i64 0, .slice none 0 0] 43)).mono (by simp))
  have h0 := h.up b0
  have g0 := g.up b0
  have hz0 : w.heap.size + 2 = ((w.alloc (.cells #[.slice ao ks.length ca, .int .i64 t, .int .i64 n, .slice bo xs.length cb] 43)).alloc (.cells #[.slice none 0 0, .int .i64 0, .int .i64 0, .slice none 0 0] 43)).heap.size := by simp
  have hz1 : (w.alloc (.cells #[.slice ao ks.length ca, .int .i64 t, .int .i64 n, .slice bo xs.length cb] 43)).heap.size = w.heap.size + 1 := by simp
  rw [hz1] at r0
  clear hz1
  obtain ⟨p0, p1, p2, p3⟩ := s0.cells
  obtain ⟨q0, q1, q2, q3⟩ := r0.free
  obtain ⟨u0, u1, u2, u3⟩ := r0.cells
  have hpt := points16_any ks t n xs ao bo ca cb _ h0
  have hnm := fun w h g => rnumber_any ks ps ao co ca cc w h g h0.l1 gl
  have his := fun w => is_any t p w
  by_cases hok : okTab ks t n xs = true
  · rw [hok] at hpt
    obtain ⟨_, ht0, hn, hr, hall⟩ := okTab_iff.1 hok
    have hlen := cellsL_len n xs
    have hcl3 : ∀ c, c ∈ cellsL n xs → c ≤ 3 := fun c hc => by have := cells_lt hc; omega
    unfold PtsEnd at hpt
    have hnE : fndE ks t n xs ps = numE ks ps := by unfold fndE; rw [if_pos hok]
    by_cases hE : numE ks ps = 0
    · have hfE : fndE ks t n xs ps = 0 := by rw [hnE, hE]
      by_cases hp : isP t p = true
      · have hP : chkP t p = 0 := by unfold chkP; rw [if_neg (by omega), if_pos hp]
        obtain ⟨k1, k2, k3, k4, k5⟩ := set_yes hfE hP
        rw [k1, k2, k3, k4, k5]
        obtain ⟨hp1, hp2⟩ := set_put hfE hP
        obtain ⟨_, _, _, g1, g2⟩ := num_rng hE
        rw [← hn] at g2
        rw [hE] at hnm
        rw [hp] at his
        obtain ⟨_, hp0, hp3, _⟩ := chk_zero hP
        obtain ⟨V, hV⟩ : ∃ V : Nat, numV ks ps = (V : Int) := ⟨(numV ks ps).toNat, by omega⟩
        obtain ⟨P, rfl⟩ : ∃ P : Nat, p = (P : Int) := ⟨p.toNat, by omega⟩
        rw [hV] at hnm g2 hp1 hp2 ⊢
        have hpk := fun L => packed_put (L := L) h.rd.lt hp1
        simp only [Int.toNat_natCast] at hpk
        have hVl : V < (cellsL n xs).length := by omega
        have hnn : n = ((cellsL n xs).length : Nat) := by have := okR_nonneg hr; omega
        have hl4 : (cellsL n xs).length ≤ 4096 := by have := okR_le hr; omega
        have HPK : Hid (∀ L, Packed ((cellsL n xs).set V P) ((cellsL n xs).set V P).length L → L = putL n xs V P) := hpk
        generalize putL n xs V P = X at *
        generalize hcs : cellsL n xs = cs at *
        clear hcs hpk hV g1 g2 hE hn hok hlen hr hnE hfE hP hp hp1 hp2 k1 k2 k3 k4 k5 hall ht0 hp0
        have hds : (cs.set V P).length = cs.length := List.length_set
        have hd3 : ∀ c, c ∈ cs.set V P → c ≤ 3 := fun c hc => by
          rcases List.mem_or_eq_of_mem_set hc with h | h
          · exact hcl3 c h
          · omega
        have HD : Hid ((cs.set V P).length = cs.length) := hds
        have hmp : (cs.map fun c : Nat => Value.int .i64 c).set V (.int .i64 (P : Int)) = (cs.set V P).map fun c : Nat => Value.int .i64 c := by rw [List.map_set]
        have HMP : Hid ((cs.map fun c : Nat => Value.int .i64 c).set V (.int .i64 (P : Int)) = (cs.set V P).map fun c : Nat => Value.int .i64 c) := hmp
        have HNN : Hid (n = (cs.length : Nat)) := hnn
        clear hds hmp hcl3 hnn
        go_enter Try.func26, Try.ntmps26
        go_wp2_with fail
        refine hpt.mono ?_
        rintro e w1 ⟨v, rfl, hv, _, hb⟩
        clear p0 p1 p2 p3 q0 q1 q2 q3 u0 u1 u2 u3
        have bz1 := hb
        obtain ⟨p0, p1, p2, p3⟩ := (s0.up bz1).cells
        obtain ⟨q0, q1, q2, q3⟩ := (r0.up bz1).free
        obtain ⟨u0, u1, u2, u3⟩ := (r0.up bz1).cells
        clear hpt hb h g
        have ho1 := hv trivial
        clear hv
        go_wp2_with fail
        refine (hnm _ (h0.iz.up bz1) (g0.up bz1)).mono ?_
        rintro e w2 ⟨rfl, hb⟩
        clear p0 p1 p2 p3 q0 q1 q2 q3 u0 u1 u2 u3
        have bz2 := Below.thn bz1 hb
        obtain ⟨p0, p1, p2, p3⟩ := (s0.up bz2).cells
        obtain ⟨q0, q1, q2, q3⟩ := (r0.up bz2).free
        obtain ⟨u0, u1, u2, u3⟩ := (r0.up bz2).cells
        have ho2 := owns_up ho1 hb
        clear hnm hb ho1
        go_wp2_with fail
        refine (his _).mono ?_
        rintro e w3 ⟨rfl, rfl⟩
        clear his
        rcases id ho2.2 with ⟨_, h0'⟩ | ⟨gb, cap, cur, rfl, hgb, _, _, _, _, _⟩
        · exact absurd h0' (by omega)
        have hcell := ho2.cellAt V (by omega)
        have hfr := ho2.frozenAt V
        obtain ⟨y, hy⟩ : ∃ y, w3.cell? ⟨gb, V, none⟩ = some y := by rw [hcell]; exact ⟨_, by rw [List.getElem?_map, List.getElem?_eq_getElem hVl]; rfl⟩
        have hst := (ho2.stored V (.int .i64 (P : Int))).1
        rw [HMP.out] at hst
        have bz3 : Below _ _ (w3.setCell ⟨gb, V, none⟩ (.int .i64 (P : Int))) := bz2.setCell hgb _
        have hoi : Oi (w3.setCell ⟨gb, V, none⟩ (.int .i64 (P : Int))) 0 (.slice (some ⟨gb, 0, none⟩) (cs.set V P).length cap) (cs.set V P) := by
          unfold Oi
          rw [HD.out]
          exact owns_mono hst (Nat.zero_le _)
        obtain ⟨co', cc', hce, hri⟩ := hoi.form
        simp only [Value.slice.injEq] at hce
        obtain ⟨rfl, _, rfl⟩ := hce
        have hof := of16_any ks t ao ca _ cap (cs.set V P) _ (h0.iz.up bz3) h0.l1 hcap hri (by rw [HD.out]; exact hl4) hd3
        rw [HD.out] at hof
        clear ho2 hcell hst hoi hri hd3 HMP
        have pp := (s0.up bz3).cells
        have qq := (r0.up bz3).free
        have uu := (r0.up bz3).cells
        obtain ⟨pp0, pp1, pp2, pp3⟩ := pp
        obtain ⟨qq0, qq1, qq2, qq3⟩ := qq
        obtain ⟨uu0, uu1, uu2, uu3⟩ := uu
        go_wp2_with fail
        refine hof.mono ?_
        rintro e w5 ⟨po, pc, so, cap2, L, rfl, hO, hP, hrd, hb⟩
        clear p0 p1 p2 p3 q0 q1 q2 q3 u0 u1 u2 u3
        have bz5 := Below.thn bz3 hb
        obtain ⟨p0, p1, p2, p3⟩ := (s0.up bz5).cells
        obtain ⟨q0, q1, q2, q3⟩ := (r0.up bz5).free
        obtain ⟨u0, u1, u2, u3⟩ := (r0.up bz5).cells
        obtain rfl := HPK.out L hP
        have hb0 := (Below.thn b0 bz5)
        have hrr := r0.up bz5
        have HO : Hid (w5.ownsRow (w.heap.size + 2) 38 1 (.slice po ks.length pc) ks.length (ks.map fun z => .int .i64 z)) := owns_mono hO (by rw [hz0]; exact bz3.size)
        have hHD := HD.out
        have hNN := HNN.out
        clear hof hb hO hP HPK HD HNN h0 g0 s0 r0 b0 bz1 bz2 bz3 bz5 hz0 hy hfr hgb
        go_wp2
        refine bodyPost_ret (v := .tuple #[.agg #[.slice po ks.length pc, .int .i64 t, .int .i64 (((cs.set V P).length : Nat) : Int), .slice so L.length cap2], .int .i64 0]) (by simp [results, Try.results26, go_sem, u0, u1, u2, u3]) rfl ?_
        rw [hHD, ← hNN]
        exact ⟨po, pc, so, cap2, rfl, owns_mono (owns_set4 HO.out (Nat.lt_succ_self _)) (by omega), rd_set4 hrd hrr (by intro z hz; cases hz) (by intro z hz; cases hz) _ _ _ _, below_set4 hb0 (Nat.le_succ _) _ _ _ _⟩
      · have hpf : isP t p = false := by simpa using hp
        have hP : chkP t p = 2 := by unfold chkP; rw [if_neg (by omega), hpf]; rfl
        obtain ⟨k1, k2, k3, k4, k5⟩ := set_no ((set_chk (p := p) hfE).trans hP) (by decide)
        rw [k1, k2, k3, k4, k5]
        rw [hE] at hnm
        rw [hpf] at his
        generalize numV ks ps = V at *
        generalize cellsL n xs = cs at *
        clear k1 k2 k3 k4 k5 hE hn hok hlen hr hnE hfE hP hp hall hcl3
        go_enter Try.func26, Try.ntmps26
        go_wp2_with fail
        refine hpt.mono ?_
        rintro e w1 ⟨v, rfl, hv, _, hb⟩
        clear p0 p1 p2 p3 q0 q1 q2 q3 u0 u1 u2 u3
        have bz1 := hb
        obtain ⟨p0, p1, p2, p3⟩ := (s0.up bz1).cells
        obtain ⟨q0, q1, q2, q3⟩ := (r0.up bz1).free
        obtain ⟨u0, u1, u2, u3⟩ := (r0.up bz1).cells
        clear hpt hb h g
        clear hv
        go_wp2_with fail
        refine (hnm _ (h0.iz.up bz1) (g0.up bz1)).mono ?_
        rintro e w2 ⟨rfl, hb⟩
        clear p0 p1 p2 p3 q0 q1 q2 q3 u0 u1 u2 u3
        have bz2 := Below.thn bz1 hb
        obtain ⟨p0, p1, p2, p3⟩ := (s0.up bz2).cells
        obtain ⟨q0, q1, q2, q3⟩ := (r0.up bz2).free
        obtain ⟨u0, u1, u2, u3⟩ := (r0.up bz2).cells
        clear hnm hb
        go_wp2_with fail
        refine (his _).mono ?_
        rintro e w3 ⟨rfl, rfl⟩
        clear his
        go_wp2
        refine bodyPost_ret (v := .tuple #[.agg #[.slice none 0 0, .int .i64 0, .int .i64 0, .slice none 0 0], .int .i64 2]) (by simp [results, Try.results26, go_sem, u0, u1, u2, u3]) rfl ?_
        exact (tab_no (below_set4 (Below.thn b0 bz2) (Nat.le_succ _) _ _ _ _)).rd
    · have hfE : fndE ks t n xs ps ≠ 0 := by rw [hnE]; exact hE
      obtain ⟨k1, k2, k3, k4, k5⟩ := set_no (set_fnd (p := p) hfE) hfE
      rw [k1, k2, k3, k4, k5]
      rw [hnE]
      generalize numE ks ps = c at *
      generalize numV ks ps = V at *
      generalize cellsL n xs = cs at *
      have hne : (c != 0) = true := by simpa using hE
      clear k1 k2 k3 k4 k5 hE hn hok hlen hr hnE hfE hall hcl3 his
      go_enter Try.func26, Try.ntmps26
      go_wp2_with fail
      refine hpt.mono ?_
      rintro e w1 ⟨v, rfl, hv, _, hb⟩
      clear p0 p1 p2 p3 q0 q1 q2 q3 u0 u1 u2 u3
      have bz1 := hb
      obtain ⟨p0, p1, p2, p3⟩ := (s0.up bz1).cells
      obtain ⟨q0, q1, q2, q3⟩ := (r0.up bz1).free
      obtain ⟨u0, u1, u2, u3⟩ := (r0.up bz1).cells
      clear hpt hb h g
      clear hv
      go_wp2_with fail
      refine (hnm _ (h0.iz.up bz1) (g0.up bz1)).mono ?_
      rintro e w2 ⟨rfl, hb⟩
      clear p0 p1 p2 p3 q0 q1 q2 q3 u0 u1 u2 u3
      have bz2 := Below.thn bz1 hb
      obtain ⟨p0, p1, p2, p3⟩ := (s0.up bz2).cells
      obtain ⟨q0, q1, q2, q3⟩ := (r0.up bz2).free
      obtain ⟨u0, u1, u2, u3⟩ := (r0.up bz2).cells
      clear hnm hb
      go_wp2
      refine bodyPost_ret (v := .tuple #[.agg #[.slice none 0 0, .int .i64 0, .int .i64 0, .slice none 0 0], .int .i64 c]) (by simp [results, Try.results26, go_sem, u0, u1, u2, u3]) rfl ?_
      exact (tab_no (below_set4 (Below.thn b0 bz2) (Nat.le_succ _) _ _ _ _)).rd
  · have hof : okTab ks t n xs = false := by simpa using hok
    have hfE : fndE ks t n xs ps = 3 := by unfold fndE; rw [hof]; rfl
    obtain ⟨k1, k2, k3, k4, k5⟩ := set_no ((set_fnd (p := p) (by rw [hfE]; decide)).trans hfE) (by decide)
    rw [k1, k2, k3, k4, k5]
    rw [hof] at hpt
    generalize cellsL n xs = cs at *
    unfold PtsEnd at hpt
    clear k1 k2 k3 k4 k5 hok hfE hof hnm his
    go_enter Try.func26, Try.ntmps26
    go_wp2_with fail
    refine hpt.mono ?_
    rintro e w1 ⟨v, rfl, hv, _, hb⟩
    clear p0 p1 p2 p3 q0 q1 q2 q3 u0 u1 u2 u3
    have bz1 := hb
    obtain ⟨p0, p1, p2, p3⟩ := (s0.up bz1).cells
    obtain ⟨q0, q1, q2, q3⟩ := (r0.up bz1).free
    obtain ⟨u0, u1, u2, u3⟩ := (r0.up bz1).cells
    clear hpt hb h g
    clear hv
    go_wp2
    refine bodyPost_ret (v := .tuple #[.agg #[.slice none 0 0, .int .i64 0, .int .i64 0, .slice none 0 0], .int .i64 3]) (by simp [results, Try.results26, go_sem, u0, u1, u2, u3]) rfl ?_
    exact (tab_no (below_set4 (Below.thn b0 bz1) (Nat.le_succ _) _ _ _ _)).rd
end Go.Proofs.Ytiikkbofcccjfaa
