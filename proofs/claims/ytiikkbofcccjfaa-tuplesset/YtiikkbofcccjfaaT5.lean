/-
  Lists of points and of types: are two the same, is one nowhere greater, copies.
-/
import Derived.Test.YtiikkbofcccjfaaT4
import Derived.Test.YtiikkbofcccjfaaRp
namespace Go.Proofs.Ytiikkbofcccjfaa
open Go.RowKit
open Go.Lib
open RowsM
set_option maxRecDepth 100000

theorem ext_getZ {xs ys : List Int} (hl : xs.length = ys.length) (h : ∀ j, j < xs.length → xs.getD j 0 = ys.getD j 0) : xs = ys := by
  apply List.ext_getElem hl
  intro i h1 h2
  have := h i h1
  rw [List.getD_eq_getElem?_getD, List.getElem?_eq_getElem h1, List.getD_eq_getElem?_getD, List.getElem?_eq_getElem h2] at this
  exact this

set_option maxHeartbeats 1000000 in
theorem same16_any (xs ys : List Int) (ao bo : Option Addr) (ca cb : Nat) (w : World) (h : Iz w ao xs) (g : Iz w bo ys) (hl : xs.length ≤ 17592186043904) (gl : ys.length ≤ 17592186043904) :
    Calls Try.prog 16 #[.slice ao xs.length ca, .slice bo ys.length cb] w fun e w' => e = .returned (.bool (decide (xs = ys))) ∧ Below w.heap.size w w' := by
  by_cases hll : xs.length = ys.length
  · obtain ⟨r, hr⟩ : ∃ r : Bool, r = decide (xs = ys) := ⟨_, rfl⟩
    rw [← hr]
    have HR : Hid (r = decide (xs = ys)) := hr
    have HL : Hid (xs.length = ys.length) := hll
    rw [← hll] at gl ⊢
    clear hr hll
    go_enter Try.func16, Try.ntmps16
    go_wp2
    go_loopw [5] (fun i wr => ∃ k : Nat, k ≤ xs.length ∧ i = .int .i64 k ∧ Below w.heap.size w wr ∧ Hid (∀ j, j < k → xs.getD j 0 = ys.getD j 0)) (fun i _ => xs.length - (intOf i).toNat)
    case atStart => exact ⟨0, Nat.zero_le _, rfl, Below.refl _ _, fun j hj => absurd hj (by omega)⟩
    case round =>
      obtain ⟨k, hk, rfl, hb, hall⟩ := hrel
      by_cases hlt : k < xs.length
      · obtain ⟨b, off, rfl, hc⟩ := h.up hb (by intro e; subst e; simp at hlt)
        obtain ⟨b', off', rfl, hc'⟩ := g.up hb (by intro e; subst e; rw [show xs.length = _ from HL] at hlt; simp at hlt)
        obtain ⟨x, hxe⟩ : ∃ x, x = xs.getD k 0 := ⟨_, rfl⟩
        obtain ⟨y, hye⟩ : ∃ y, y = ys.getD k 0 := ⟨_, rfl⟩
        have ha := hc k hlt
        have hb' := hc' k (by rw [← show xs.length = _ from HL]; exact hlt)
        rw [← hxe] at ha
        rw [← hye] at hb'
        have HX : Hid (x = xs.getD k 0) := hxe
        have HY : Hid (y = ys.getD k 0) := hye
        clear hxe hye hc hc' h g
        by_cases hxy : x = y
        · subst hxy
          go_wp2_with fail
          go_quiet (fail)
          go_wp2
          go_roundw
          case rel =>
            refine ⟨k + 1, by omega, by go_num, below_drewN hb _, fun j hj => ?_⟩
            rcases Nat.lt_or_ge j k with h | h
            · exact (show ∀ j, j < k → _ from hall) j h
            · have e : j = k := by omega
              rw [e, ← show x = _ from HX, ← show x = _ from HY]
          case measure => simp [intOf]; omega
        · have hrf : r = false := by
            rw [show r = _ from HR, decide_eq_false_iff_not]
            intro e
            rw [show x = _ from HX, show y = _ from HY, e] at hxy
            exact hxy rfl
          subst hrf
          have hxy2 : (x == y) = false := by simpa using hxy
          clear HR
          go_wp2_with fail
          go_quiet (fail)
          go_wp2
          go_ret
          exact ⟨rfl, below_drewN hb _⟩
      · obtain rfl : k = xs.length := by omega
        have hrt : r = true := by
          rw [show r = _ from HR, decide_eq_true_eq]
          exact ext_getZ HL hall
        subst hrt
        clear h g HR
        go_wp2
        go_ret
        exact ⟨rfl, hb⟩
  · have e : decide (xs = ys) = false := decide_eq_false (by intro e; exact hll (by rw [e]))
    rw [e]
    have hne : ((xs.length : Int) != (ys.length : Int)) = true := by simp; omega
    clear h g e
    go_enter Try.func16, Try.ntmps16
    go_wp2
    go_ret
    exact ⟨rfl, Below.refl _ _⟩

set_option maxHeartbeats 1000000 in
theorem rbelow_any (xs ys : List Int) (ao bo : Option Addr) (ca cb : Nat) (w : World) (h : Iz w ao xs) (g : Iz w bo ys) (hl : xs.length ≤ 17592186043904) (hll : xs.length = ys.length) :
    Calls Try.prog 50 #[.slice ao xs.length ca, .slice bo xs.length cb] w fun e w' => e = .returned (.bool (belowT xs ys)) ∧ Below w.heap.size w w' := by
  obtain ⟨r, hr⟩ : ∃ r : Bool, r = belowT xs ys := ⟨_, rfl⟩
  rw [← hr]
  have HR : Hid (r = belowT xs ys) := hr
  have HL : Hid (xs.length = ys.length) := hll
  clear hr hll
  go_enter Try.func50, Try.ntmps50
  go_wp2
  go_loopw [5] (fun i wr => ∃ k : Nat, k ≤ xs.length ∧ i = .int .i64 k ∧ Below w.heap.size w wr ∧ Hid (∀ j, j < k → xs.getD j 0 ≤ ys.getD j 0)) (fun i _ => xs.length - (intOf i).toNat)
  case atStart => exact ⟨0, Nat.zero_le _, rfl, Below.refl _ _, fun j hj => absurd hj (by omega)⟩
  case round =>
    obtain ⟨k, hk, rfl, hb, hall⟩ := hrel
    by_cases hlt : k < xs.length
    · obtain ⟨b, off, rfl, hc⟩ := h.up hb (by intro e; subst e; simp at hlt)
      obtain ⟨b', off', rfl, hc'⟩ := g.up hb (by intro e; subst e; rw [show xs.length = _ from HL] at hlt; simp at hlt)
      obtain ⟨x, hxe⟩ : ∃ x, x = xs.getD k 0 := ⟨_, rfl⟩
      obtain ⟨y, hye⟩ : ∃ y, y = ys.getD k 0 := ⟨_, rfl⟩
      have ha := hc k hlt
      have hb' := hc' k (by rw [← show xs.length = _ from HL]; exact hlt)
      rw [← hxe] at ha
      rw [← hye] at hb'
      have HX : Hid (x = xs.getD k 0) := hxe
      have HY : Hid (y = ys.getD k 0) := hye
      clear hxe hye hc hc' h g
      by_cases hxy : x ≤ y
      · have hnx : Hid (∀ j, j < k + 1 → xs.getD j 0 ≤ ys.getD j 0) := fun j hj => by
          rcases Nat.lt_or_ge j k with h | h
          · exact (show ∀ j, j < k → _ from hall) j h
          · have e : j = k := by omega
            rw [e, ← show x = _ from HX, ← show y = _ from HY]
            exact hxy
        clear hall HX HY
        have hxy2 : decide (y < x) = false := decide_eq_false (by omega)
        go_wp2_with fail
        go_quiet (fail)
        go_wp2
        go_roundw
        case rel => exact ⟨k + 1, by omega, by go_num, below_drewN hb _, hnx⟩
        case measure => simp [intOf]; omega
      · have hrf : r = false := by
          rw [show r = _ from HR, Bool.eq_false_iff]
          intro e
          have := (belowT_iff HL).1 e k hlt
          rw [← show x = _ from HX, ← show y = _ from HY] at this
          exact hxy this
        subst hrf
        have hxy2 : decide (y < x) = true := decide_eq_true (by omega)
        clear HR HX HY hall
        go_wp2_with fail
        go_quiet (fail)
        go_wp2
        go_ret
        exact ⟨rfl, below_drewN hb _⟩
    · obtain rfl : k = xs.length := by omega
      have hrt : r = true := by
        rw [show r = _ from HR]
        exact (belowT_iff HL).2 hall
      subst hrt
      clear h g HR
      go_wp2
      go_ret
      exact ⟨rfl, hb⟩

theorem belowT_no {xs ys : List Int} (h : xs.length ≠ ys.length) : belowT xs ys = false := by
  rw [Bool.eq_false_iff]
  intro e
  exact h (belowT_len e)

set_option maxHeartbeats 1000000 in
theorem rBelow_any (xs ys : List Int) (ao bo : Option Addr) (ca cb : Nat) (w : World) (h : Iz w ao xs) (g : Iz w bo ys) (hl : xs.length ≤ 17592186043904) (_gl : ys.length ≤ 17592186043904) :
    Calls Try.prog 29 #[.slice ao xs.length ca, .slice bo ys.length cb] w fun e w' => e = .returned (.bool (belowT xs ys)) ∧ Below w.heap.size w w' := by
  by_cases hll : xs.length = ys.length
  · have hc := rbelow_any xs ys ao bo ca cb w h g hl hll
    rw [← hll]
    generalize belowT xs ys = r at *
    clear hll h g _gl
    go_enter Try.func29, Try.ntmps29
    go_wp2_with fail
    refine hc.mono ?_
    rintro e w1 ⟨rfl, hb⟩
    clear hc
    go_wp2
    go_ret
    exact ⟨rfl, hb⟩
  · rw [belowT_no hll]
    have hne : ((xs.length : Int) == (ys.length : Int)) = false := by simp; omega
    clear h g
    go_enter Try.func29, Try.ntmps29
    go_wp2
    go_ret
    exact ⟨rfl, Below.refl _ _⟩

theorem Try.infoT : (Try.prog.info? 38).map (fun i => (i.zero, i.size, i.bytes)) = some (some (.int .i64 0), 1, 8) := by kernel_rfl
theorem Try.underT : Try.prog.underlying 22 = some (.slice 38) := by kernel_rfl

theorem wpList_append_runT {P : Program} {w : World} {ops : Array Oper} {rest : List Oper} {o : Oper} {a : Act} {Q : Exit → Act → World → Prop} (hgd : o.guard = none) (s x : Operand) (t : TypeId)
    (ho : o.op = .call { callee := .builtin .append, args := #[s, x], argTypes := #[t, t] }) (hty : o.type = t) (v u : Value) (hs : a.eval s = v) (hx : a.eval x = u)
    (v' : Value) (w' : World) (hrun : (Builtin.append_ #[t, t] t #[v, u]).run P w = .ok v' w') (h : wpList P ops Q rest (a.put o.dst v') w') : wpList P ops Q (o :: rest) a w := by
  refine wpList_plain hgd fun K hK => ?_
  rw [← hty] at hrun
  unfold Oper.wp
  rw [hty] at hrun
  simp only [execOp, ho, resolve, invoke, builtin, Sem.run_bind, Sem.run_pure, Result.andThen_ok, List.map_toArray, List.map_cons, List.map_nil, hs, hx, hty, hrun]
  exact hK _ _ h

/-- Whole numbers appended to a row of the call's own. -/
theorem nums_app {TS T : TypeId} (hinf : (Try.prog.info? T).map (fun i => (i.zero, i.size, i.bytes)) = some (some (.int .i64 0), 1, 8)) (hund : Try.prog.underlying TS = some (.slice T))
    (w : World) (B : Nat) (v : Value) (ao : Option Addr) (c : Nat) (xs ys : List Int) (h : w.ownsRow B T 1 v xs.length (xs.map fun z => .int .i64 z)) (hB : B ≤ w.heap.size) (hy : Iz w ao ys) (hcap : ao = none → c = 0) (hsum : xs.length + ys.length ≤ 17592186044416) :
    ∃ v' w', (Builtin.append_ #[TS, TS] TS #[v, .slice ao ys.length c]).run Try.prog w = .ok v' w' ∧ w'.ownsRow B T 1 v' (xs ++ ys).length ((xs ++ ys).map fun z => .int .i64 z) ∧ w.grownBy w' v.ownBlock := by
  obtain ⟨i0, hi, hz0, hz1, hz2⟩ := info_parts hinf
  cases ao with
  | none =>
    obtain rfl := hcap rfl
    have hyn : ys = [] := by
      cases ys with
      | nil => rfl
      | cons y ys => obtain ⟨b, off, e, _⟩ := hy (by simp); cases e
    subst hyn
    refine ⟨v, w, run_append_owned_none (P := Try.prog) (w := w) B TS TS T i0 1 hund hi v xs.length _ h, ?_, ⟨rfl, rfl, rfl, Nat.le_refl _, fun _ _ _ => rfl⟩⟩
    rw [List.append_nil]
    exact h
  | some a =>
    have hnews : ∀ j u, (ys.map fun z : Int => Value.int .i64 z)[j]? = some u → w.cell? (a.add j) = some u := by
      intro j u hj
      rw [List.getElem?_map] at hj
      cases hq : ys[j]? with
      | none => rw [hq] at hj; cases hj
      | some x =>
        rw [hq] at hj
        simp only [Option.map_some, Option.some.injEq] at hj
        subst hj
        have hjl : j < ys.length := (List.getElem?_eq_some_iff.1 hq).1
        obtain ⟨b, off, e, hc⟩ := hy (by intro e; rw [e] at hjl; simp at hjl)
        cases e
        rw [Addr.add_lit, hc j hjl, List.getD_eq_getElem?_getD, hq]
        rfl
    obtain ⟨v', w', hr, ho, hgr, _⟩ := run_append_own (P := Try.prog) w B TS TS T i0 (.int .i64 0) 1 8 hund hi hz0 hz1 hz2 rfl (by decide) v xs.length _ h a ys.length c (ys.map fun z => .int .i64 z) (by simp) hnews
      (by intro u hu; rw [List.mem_map] at hu; obtain ⟨c, _, rfl⟩ := hu; rfl) (by unfold maxLen; omega) (by omega) hB
    refine ⟨v', w', hr, ?_, hgr⟩
    rw [List.length_append, List.map_append]
    exact ho

set_option maxHeartbeats 1000000 in
theorem copiedT_any (ks : List Int) (ao : Option Addr) (ca : Nat) (w : World) (h : Iz w ao ks) (hl : ks.length ≤ 17592186043904) (hcap : ao = none → ca = 0) :
    Calls Try.prog 38 #[.slice ao ks.length ca] w fun e w' => (∃ v, e = .returned v ∧ w'.ownsRow w.heap.size 38 1 v ks.length (ks.map fun z => .int .i64 z)) ∧ Below w.heap.size w w' := by
  obtain ⟨v, w', hr, ho, hg⟩ := nums_app Try.infoT Try.underT w w.heap.size (.slice none 0 0) ao ca [] ks (World.ownsRow_nil _ _ _ _) (Nat.le_refl _) h hcap (by simp; omega)
  have hb := (Below.refl w.heap.size w).grown hg (Nat.le_refl _) (by intro k hk; cases hk)
  go_enter Try.func38, Try.ntmps38
  go_wp2_with (at_builtin; refine wpList_append_runT rfl (.const (.slice none 0 0)) (.tmp 3) 22 rfl rfl _ _ rfl rfl _ _ hr ?_; clear hr)
  go_ret
  exact ⟨⟨_, rfl, ho⟩, hb⟩

set_option maxHeartbeats 1000000 in
theorem rcopiedT_any (ks : List Int) (ao : Option Addr) (ca : Nat) (w : World) (h : Iz w ao ks) (hl : ks.length ≤ 17592186043904) (hcap : ao = none → ca = 0) :
    Calls Try.prog 40 #[.slice ao ks.length ca] w fun e w' => (∃ v, e = .returned v ∧ w'.ownsRow w.heap.size 38 1 v ks.length (ks.map fun z => .int .i64 z)) ∧ Below w.heap.size w w' := by
  obtain ⟨v, w', hr, ho, hg⟩ := nums_app Try.infoT Try.underT w w.heap.size (.slice none 0 0) ao ca [] ks (World.ownsRow_nil _ _ _ _) (Nat.le_refl _) h hcap (by simp; omega)
  have hb := (Below.refl w.heap.size w).grown hg (Nat.le_refl _) (by intro k hk; cases hk)
  go_enter Try.func40, Try.ntmps40
  go_wp2_with (at_builtin; refine wpList_append_runT rfl (.tmp 4) (.tmp 5) 22 rfl rfl _ _ rfl rfl _ _ hr ?_; clear hr)
  go_ret
  exact ⟨⟨_, rfl, ho⟩, hb⟩
end Go.Proofs.Ytiikkbofcccjfaa
