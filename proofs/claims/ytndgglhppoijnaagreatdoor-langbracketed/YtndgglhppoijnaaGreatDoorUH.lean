/-
  4 texts in one: what each proves stands at its head.
-/
import Derived.Test.YtndgglhppoijnaaGreatDoorMg
import Derived.Lib.SlBytesConst
import Derived.RegionTactic
import Derived.Laws.AppendOwnNone
/-
  Marks read in memory; the walk of awake.
-/
namespace Go.Proofs.YtndgglhppoijnaaGreatDoor
open Go.RowKit
set_option maxRecDepth 100000

def md : Mk := ⟨0, [], 0, 0, 0⟩

/-- The mark m lies at this place. -/
def M4 (w : World) (b o : Nat) (m : Mk) : Prop :=
  w.cell? ⟨b, o, none⟩ = some (.int .i64 m.kind) ∧ w.cell? ⟨b, o + 1, none⟩ = some (.string (bs m.text)) ∧ w.cell? ⟨b, o + 2, none⟩ = some (.complex .f64 (fl m.p) (fl m.q)) ∧ w.cell? ⟨b, o + 3, none⟩ = some (.int .i64 m.at_)

/-- What a slice of marks reads. -/
structure Mr (w : World) (ao : Option Addr) (ms : List Mk) : Prop where
  pl : ms ≠ [] → ∃ b off, ao = some ⟨b, off, none⟩ ∧ ∀ t, t < ms.length → M4 w b (off + t * 4) (ms.getD t md)

theorem Mr.nil (w : World) (ao : Option Addr) : Mr w ao [] := ⟨fun h => absurd rfl h⟩

theorem M4.to {w w' : World} {b o B : Nat} {m : Mk} (h : M4 w b o m) (hl : b < B) (hb : Below B w w') : M4 w' b o m :=
  ⟨(hb.cell hl).trans h.1, (hb.cell hl).trans h.2.1, (hb.cell hl).trans h.2.2.1, (hb.cell hl).trans h.2.2.2⟩
theorem M4.lt {w : World} {b o : Nat} {m : Mk} (h : M4 w b o m) : b < w.heap.size := cell_lt h.1

theorem Mr.up {w w' : World} {ao : Option Addr} {ms : List Mk} (h : Mr w ao ms) (hb : Below w.heap.size w w') : Mr w' ao ms := by
  refine ⟨fun hn => ?_⟩
  obtain ⟨b, off, e, hc⟩ := h.pl hn
  exact ⟨b, off, e, fun t ht => (hc t ht).to (hc t ht).lt hb⟩

theorem Mr.at {w : World} {b off : Nat} {ms : List Mk} (h : Mr w (some ⟨b, off, none⟩) ms) : ∀ t, t < ms.length → M4 w b (off + t * 4) (ms.getD t md) := by
  intro t ht
  obtain ⟨b', off', e', hc⟩ := h.pl (by intro e; rw [e] at ht; simp at ht)
  simp only [Option.some.injEq, Addr.mk.injEq, and_true] at e'
  obtain ⟨rfl, rfl⟩ := e'
  exact hc t ht

theorem mksC_get : ∀ (ms : List Mk) (i j : Nat), i < ms.length → j < 4 → (mksC ms)[i * 4 + j]? = (mkC (ms.getD i md))[j]? := by
  intro ms
  induction ms with
  | nil => intro i j h; simp at h
  | cons m ms ih =>
    intro i j h hj
    have e : mksC (m :: ms) = mkC m ++ mksC ms := rfl
    have hl : (mkC m).length = 4 := rfl
    rw [e]
    cases i with
    | zero => rw [Nat.zero_mul, Nat.zero_add, List.getElem?_append_left (by omega)]; rfl
    | succ i =>
      rw [List.getElem?_append_right (by omega), hl, show (i + 1) * 4 + j - 4 = i * 4 + j by omega, ih i j (by simpa using h) hj]
      rfl

theorem owns_cell {w : World} {B g c n : Nat} {xs : List Value} (h : w.ownsRow B 85 4 (.slice (some ⟨g, 0, none⟩) n c) n xs) : ∀ j v, xs[j]? = some v → w.cell? ⟨g, j, none⟩ = some v := by
  intro j v hj
  rcases h.2 with ⟨h', _⟩ | ⟨g', cap', cur, h', hb, hg, _, _, hs, htake⟩
  · simp at h'
  · simp only [Value.slice.injEq, Option.some.injEq, Addr.mk.injEq, and_true, true_and] at h'
    obtain ⟨rfl, rfl⟩ := h'
    rw [cell_of_row w g j _ _ _ hg]
    have hjl : j < xs.length := (List.getElem?_eq_some_iff.1 hj).1
    rw [h.1] at hjl
    have e : cur[j]? = (cur.toList.take (n * 4))[j]? := by rw [List.getElem?_take, if_pos hjl]; simp
    rw [e, htake, hj]

theorem Mr.of {w : World} {B g c : Nat} {ms : List Mk} (h : w.ownsRow B 85 4 (.slice (some ⟨g, 0, none⟩) ms.length c) ms.length (mksC ms)) : Mr w (some ⟨g, 0, none⟩) ms := by
  refine ⟨fun _ => ⟨g, 0, rfl, fun t ht => ?_⟩⟩
  have hc := owns_cell h
  rw [Nat.zero_add]
  refine ⟨hc _ _ ?_, hc _ _ ?_, hc _ _ ?_, hc _ _ ?_⟩
  · rw [show t * 4 = t * 4 + 0 from rfl, mksC_get ms t 0 ht (by omega)]; rfl
  · rw [mksC_get ms t 1 ht (by omega)]; rfl
  · rw [mksC_get ms t 2 ht (by omega)]; rfl
  · rw [mksC_get ms t 3 ht (by omega)]; rfl

theorem owns_ge {w : World} {B g c n : Nat} {xs : List Value} (h : w.ownsRow B 85 4 (.slice (some ⟨g, 0, none⟩) n c) n xs) : B ≤ g := by
  rcases h.2 with ⟨h', _⟩ | ⟨g', cap', cur, h', hb, _⟩
  · simp at h'
  · simp only [Value.slice.injEq, Option.some.injEq, Addr.mk.injEq, and_true, true_and] at h'
    omega

def tx1 : List UInt8 := [97, 45, 62, 51, 105, 32, 35, 32, 120]
def tx2 : List UInt8 := [120, 32, 48, 48, 55]
def ms1 : List Mk := [⟨0, [97], 0, 0, 0⟩, ⟨3, [45, 62], 0, 0, 1⟩, ⟨2, [51, 105], 0, 3, 3⟩, ⟨4, [], 0, 0, 9⟩]

theorem cut1 : cut rdN tx1 0 = .ok ms1 := by kernel_rfl
theorem cut2 : cut rdN tx2 0 = .bad 2 := by kernel_rfl
theorem fl3 : fl 3 = 4613937818241073152 := by kernel_rfl

/-- Bytes just laid. -/
theorem Bd.new (w : World) (l : List UInt8) (t : TypeId) (fz : Nat × Nat) : Bd (w.alloc (.cells (l.map fun c => Value.int .u8 (c.toNat : Int)).toArray t fz)) (some ⟨w.heap.size, 0, none⟩) l := by
  refine ⟨fun _ => ⟨w.heap.size, 0, rfl, fun j hj => ?_⟩⟩
  rw [Nat.zero_add, cell_of_row _ _ j _ _ _ (heap_alloc_new w _)]
  simp [List.getD_eq_getElem?_getD, hj]

theorem env_alloc {w : World} (hE : Env w) (o : Obj) : Env (w.alloc o) := env_keep hE (below_alloc _ _)
theorem Gl.alloc {w : World} (hG : Gl w) (o : Obj) : Gl (w.alloc o) := hG.up (below_alloc _ _)

end Go.Proofs.YtndgglhppoijnaaGreatDoor
/-
  The walk of Same, at two lists of marks that are one.
-/
namespace Go.Proofs.YtndgglhppoijnaaGreatDoor
open Go.RowKit
set_option maxRecDepth 100000

/-- The parts of a mark's number are small. -/
def okN (m : Mk) : Prop := m.p.natAbs ≤ 16777216 ∧ m.q.natAbs ≤ 16777216

/-- One mark, with its place or but for it. -/
def eqM (pl : Bool) (x y : Mk) : Prop := x.kind = y.kind ∧ x.text = y.text ∧ x.p = y.p ∧ x.q = y.q ∧ (pl = true → x.at_ = y.at_)

theorem feq_self (p : Int) (h : p.natAbs ≤ 16777216) : Op.floatEq .f64 (fl p) (fl p) = true := by
  have h1 := rep_order (rep_fl p (by omega)) (rep_fl p (by omega))
  unfold Op.floatEq
  rw [h1]
  simp
theorem eq_cplx (p q : Int) (hp : p.natAbs ≤ 16777216) (hq : q.natAbs ≤ 16777216) (w : World) : (Op.equalIn 9999 38 (.complex .f64 (fl p) (fl q)) (.complex .f64 (fl p) (fl q))).run Tryz.prog w = .ok true w := by
  rw [show (9999 : Nat) = 9998 + 1 from rfl]
  unfold Op.equalIn
  simp [run_underlying (show Tryz.prog.underlying 38 = some (.complex .f64) by kernel_rfl), feq_self p hp, feq_self q hq]

theorem runM_okN {l : List UInt8} {k : Nat} {m : Mk} (h : runM rdN l k = some m) : okN m := by
  unfold runM at h
  split at h
  · cases h; exact ⟨by simp, by simp⟩
  · cases l with
    | nil => cases h
    | cons c r =>
      dsimp only at h
      split at h
      · split at h
        · rename_i hok
          cases h
          have hok' : rdOk (c :: r) = true := hok
          have h' := hok'
          unfold rdOk at h'
          obtain ⟨_, b1, b2, _⟩ := of_decide_eq_true h'
          refine ⟨?_, ?_⟩
          · show (rdP (c :: r)).natAbs ≤ _
            unfold rdP; rw [hok']; exact b1
          · show (rdQ (c :: r)).natAbs ≤ _
            unfold rdQ; rw [hok']; exact b2
        · cases h
      · split at h
        · cases h; exact ⟨by simp, by simp⟩
        · cases h

theorem stp_okN {l : List UInt8} {k : Nat} {m : Mk} (h : stp rdN l k = .mark m) : okN m := by
  cases l with
  | nil => simp [stp] at h
  | cons c r =>
    unfold stp at h
    dsimp only at h
    split at h
    · cases h
    · split at h
      · cases h
      · split at h
        · cases h
        · rename_i hm
          cases h
          unfold oneM at hm
          dsimp only at hm
          split at hm
          · exact runM_okN hm
          · unfold signM at hm
            split at hm
            · cases hm
            · cases hm; exact ⟨by simp, by simp⟩

theorem cut_okN : ∀ l k ms, cut rdN l k = .ok ms → ∀ m ∈ ms, okN m := by
  refine cut_ind rdN ?_ ?_ ?_ ?_
  · intro k ms h m hm; cases h; simp at hm; subst hm; exact ⟨by simp [endM], by simp [endM]⟩
  · intro l k h ms e; rw [cut_bad rdN h] at e; cases e
  · intro l k n h ih ms e; rw [cut_skip rdN h] at e; exact ih ms e
  · intro l k m h ih ms e
    rw [cut_mark rdN h] at e
    cases hc' : cut rdN (l.drop m.text.length) (k + m.text.length) with
    | bad j => rw [hc'] at e; cases e
    | ok ms' =>
      rw [hc'] at e
      cases e
      intro x hx
      simp only [List.cons_append, List.nil_append, List.mem_cons] at hx
      rcases hx with rfl | hx
      · exact stp_okN h
      · exact ih ms' hc' x hx

theorem okN_get {ms : List Mk} (h : ∀ m ∈ ms, okN m) : ∀ t, t < ms.length → okN (ms.getD t md) := by
  intro t ht
  rw [List.getD_eq_getElem?_getD, List.getElem?_eq_getElem ht]
  exact h _ (List.getElem_mem _)

theorem cut_few : ∀ l k ms, cut rdN l k = .ok ms → ms.length ≤ l.length + 1 := by
  refine cut_ind rdN ?_ ?_ ?_ ?_
  · intro k ms h; cases h; simp
  · intro l k h ms e; rw [cut_bad rdN h] at e; cases e
  · intro l k n h ih ms e; rw [cut_skip rdN h] at e; have := ih ms e; rw [List.length_drop] at this; omega
  · intro l k m h ih ms e
    obtain ⟨h1, h2, _⟩ := stp_mark rdN h
    rw [cut_mark rdN h] at e
    cases hc' : cut rdN (l.drop m.text.length) (k + m.text.length) with
    | bad j => rw [hc'] at e; cases e
    | ok ms' =>
      rw [hc'] at e
      cases e
      have := ih ms' hc'
      rw [List.length_drop] at this
      simp
      omega
end Go.Proofs.YtndgglhppoijnaaGreatDoor
/-
  What Marks answers, as values; the walk of free.
-/
namespace Go.Proofs.YtndgglhppoijnaaGreatDoor
open Go.RowKit
set_option maxRecDepth 100000

/-- The marks that are answered, and the fault's two cells. -/
def msC : Cu → List Mk
  | .ok ms => ms
  | .bad _ => []
def fwC : Cu → Int
  | .ok _ => 0
  | .bad _ => 20
def faC : Cu → Int
  | .ok _ => 0
  | .bad k => k

theorem marks_val (ao : Option Addr) (cap : Nat) (l : List UInt8) (hlen : l.length ≤ 16777216) (hcap : l.length ≤ cap) (w : World) (hG : Gl w) (hE : Env w) (hT : Bd w ao l) :
    Calls Tryz.prog 17 #[.slice ao l.length cap] w fun e w' => ∃ go c, e = .returned (.tuple #[.slice go (msC (cut rdN l 0)).length c, .agg #[.int .i64 (fwC (cut rdN l 0)), .int .i64 (faC (cut rdN l 0))]]) ∧
      w'.ownsRow w.heap.size 85 4 (.slice go (msC (cut rdN l 0)).length c) (msC (cut rdN l 0)).length (mksC (msC (cut rdN l 0))) ∧ Mr w' go (msC (cut rdN l 0)) ∧ Below w.heap.size w w' := by
  refine (marks_any ao cap l hlen hcap w hG hE hT).mono ?_
  rintro e w' ⟨ha, hb⟩
  cases hc : cut rdN l 0 with
  | ok ms =>
    rw [hc] at ha
    obtain ⟨g, c, rfl, ho⟩ := ha
    exact ⟨some ⟨g, 0, none⟩, c, rfl, ho, Mr.of ho, hb⟩
  | bad k =>
    rw [hc] at ha
    exact ⟨none, 0, ha, ⟨rfl, .inl ⟨rfl, rfl⟩⟩, Mr.nil _ _, hb⟩

theorem frB_at {l : List UInt8} {k : Nat} (b : Bool) (h : k < l.length) : frB b (l.drop k) = if l.getD k 0 == 10 then frB false (l.drop (k + 1)) else if l.getD k 0 == 35 then frB true (l.drop (k + 1)) else if !b && !isBl (l.getD k 0) then false else frB b (l.drop (k + 1)) := by
  rw [drop_at h]; rfl

theorem byte_eq (c d : UInt8) (n : Nat) (hd : d.toNat = n) : ((c.toNat : Int) == (n : Int)) = (c == d) := by
  rw [Bool.eq_iff_iff]
  simp only [beq_iff_eq, ← UInt8.toNat_inj]
  omega

end Go.Proofs.YtndgglhppoijnaaGreatDoor
/-
  Bytes appended to a slice of the call's own.
-/
namespace Go.Proofs.YtndgglhppoijnaaGreatDoor
open Go.RowKit
set_option maxRecDepth 100000

theorem wpList_append_run {P : Program} {w : World} {ops : Array Oper} {rest : List Oper} {o : Oper} {a : Act} {Q : Exit → Act → World → Prop} (hgd : o.guard = none) (s x : Operand) (t : TypeId)
    (ho : o.op = .call { callee := .builtin .append, args := #[s, x], argTypes := #[t, t] }) (hty : o.type = t) (v u : Value) (hs : a.eval s = v) (hx : a.eval x = u)
    (v' : Value) (w' : World) (hrun : (Builtin.append_ #[t, t] t #[v, u]).run P w = .ok v' w') (h : wpList P ops Q rest (a.put o.dst v') w') : wpList P ops Q (o :: rest) a w := by
  refine wpList_plain hgd fun K hK => ?_
  rw [← hty] at hrun
  unfold Oper.wp
  rw [hty] at hrun
  simp only [execOp, ho, resolve, invoke, builtin, Sem.run_bind, Sem.run_pure, Result.andThen_ok, List.map_toArray, List.map_cons, List.map_nil, hs, hx, hty, hrun]
  exact hK _ _ h

def byteV (c : UInt8) : Value := .int .u8 (c.toNat : Int)

theorem Tryz.infoB : (Tryz.prog.info? 5).map (fun i => (i.zero, i.size, i.bytes)) = some (some (.int .u8 0), 1, 1) := by kernel_rfl
theorem Tryz.underBs : Tryz.prog.underlying 22 = some (.slice 5) := by kernel_rfl

/-- A slice of bytes of the call's own: which bytes, and from which block on it lies. -/
def Own (w : World) (B : Nat) (v : Value) (xs : List UInt8) : Prop := w.ownsRow B 5 1 v xs.length (xs.map byteV)

theorem Own.low {w : World} {B : Nat} {v : Value} {xs : List UInt8} (h : Own w B v xs) : ∀ k, v.ownBlock = some k → B ≤ k := by
  intro k hk
  rcases h.2 with ⟨rfl, _⟩ | ⟨g, cap, cur, rfl, h2, _⟩
  · simp [Value.ownBlock] at hk
  · simp [Value.ownBlock] at hk; omega

theorem Own.up {w w' : World} {B : Nat} {v : Value} {xs : List UInt8} (h : Own w B v xs) (hb : Below w.heap.size w w') : Own w' B v xs := by
  refine ⟨h.1, ?_⟩
  rcases h.2 with h' | ⟨g, cap, cur, h1, h2, h3, h4⟩
  · exact .inl h'
  · refine .inr ⟨g, cap, cur, h1, h2, ?_, h4⟩
    rw [hb.block g ?_]
    · exact h3
    · rcases Nat.lt_or_ge g w.heap.size with k | k
      · exact k
      · rw [Array.getElem?_eq_none k] at h3; cases h3

/-- What such a slice reads. -/
theorem Own.bd {w : World} {B : Nat} {v : Value} {xs : List UInt8} (h : Own w B v xs) :
    ∃ ao cap, v = .slice ao xs.length cap ∧ Bd w ao xs ∧ xs.length ≤ cap ∧ (ao = none → cap = 0) ∧ (∀ b off, ao = some ⟨b, off, none⟩ → B ≤ b) := by
  rcases h.2 with ⟨rfl, h0⟩ | ⟨g, cap, cur, rfl, h2, h3, h4, _, h5, h6⟩
  · have e := List.length_eq_zero_iff.1 h0
    subst e
    exact ⟨none, 0, rfl, Bd.nil _ _, Nat.le_refl _, fun _ => rfl, fun b off e => by cases e⟩
  · refine ⟨some ⟨g, 0, none⟩, cap, rfl, ⟨fun _ => ⟨g, 0, rfl, fun t ht => ?_⟩⟩, h4, fun e => (by cases e), fun b off e => ?_⟩
    · rw [Nat.zero_add, cell_of_row w g t _ _ _ h3]
      have e : cur[t]? = (cur.toList.take (xs.length * 1))[t]? := by rw [List.getElem?_take, if_pos (by omega)]; simp
      rw [e, h6]
      simp [ht, byteV, List.getD_eq_getElem?_getD]
    · simp only [Option.some.injEq, Addr.mk.injEq, and_true] at e
      omega

/-- Nothing, just laid. -/
theorem Own.new (w : World) : Own (w.alloc (.cells #[] 5)) w.heap.size (.slice (some ⟨w.heap.size, 0, none⟩) 0 0) [] :=
  ⟨rfl, .inr ⟨w.heap.size, 0, #[], rfl, Nat.le_refl _, heap_alloc_new w _, Nat.le_refl _, by unfold maxLen; omega, rfl, rfl⟩⟩

/-- An append to such a slice. -/
theorem own_app (w : World) (B : Nat) (v : Value) (xs : List UInt8) (h : Own w B v xs) (hB : B ≤ w.heap.size) (ao : Option Addr) (cap : Nat) (ys : List UInt8) (hy : Bd w ao ys) (hcap : ao = none → cap = 0) (hx : xs.length ≤ 100000000) (hyl : ys.length ≤ 100000000) :
    ∃ v' w', (Builtin.append_ #[22, 22] 22 #[v, .slice ao ys.length cap]).run Tryz.prog w = .ok v' w' ∧ Own w' B v' (xs ++ ys) ∧ Below B w w' := by
  obtain ⟨i0, hi, hz0, hz1, hz2⟩ := info_parts Tryz.infoB
  cases ao with
  | none =>
    have hc0 := hcap rfl
    subst hc0
    have hyn : ys = [] := by
      by_cases e : ys = []
      · exact e
      · obtain ⟨b, off, e', _⟩ := hy.pl e
        cases e'
    subst hyn
    refine ⟨v, w, run_append_owned_none (P := Tryz.prog) (w := w) B 22 22 5 i0 1 Tryz.underBs hi v xs.length _ h, ?_, Below.refl _ _⟩
    rw [List.append_nil]
    exact h
  | some a =>
    have hnews : ∀ j u, (ys.map byteV)[j]? = some u → w.cell? (a.add j) = some u := by
      intro j u hj
      rw [List.getElem?_map] at hj
      cases hq : ys[j]? with
      | none => rw [hq] at hj; cases hj
      | some x =>
        rw [hq] at hj
        simp only [Option.map_some, Option.some.injEq] at hj
        subst hj
        have hl : j < ys.length := (List.getElem?_eq_some_iff.1 hq).1
        obtain ⟨b, off, e, hc⟩ := hy.pl (by intro e; rw [e] at hl; simp at hl)
        cases e
        rw [Addr.add_mid, hc j hl, List.getD_eq_getElem?_getD, hq]
        rfl
    obtain ⟨v', w', hr, ho, hgr, _⟩ := run_append_own (P := Tryz.prog) w B 22 22 5 i0 (.int .u8 0) 1 1 Tryz.underBs hi hz0 hz1 hz2 rfl (by decide) v xs.length _ h a ys.length cap (ys.map byteV) (by simp) hnews
      (by intro u hu; rw [List.mem_map] at hu; obtain ⟨c, _, rfl⟩ := hu; rfl) (by unfold maxLen; omega) (by omega) hB
    refine ⟨v', w', hr, ?_, (Below.refl B w).grown hgr hB h.low⟩
    unfold Own
    rw [List.length_append, List.map_append]
    exact ho

theorem eqM_refl (pl : Bool) (m : Mk) : eqM pl m m := ⟨rfl, rfl, rfl, rfl, fun _ => rfl⟩

/-- One byte just laid, appended. -/
theorem own_one (w : World) (B : Nat) (v : Value) (xs : List UInt8) (c : UInt8) (h : Own w B v xs) (hB : B ≤ w.heap.size) (hx : xs.length ≤ 100000000) :
    ∃ v' w', (Builtin.append_ #[22, 22] 22 #[v, .slice (some ⟨w.heap.size, 0, none⟩) 1 1]).run Tryz.prog (w.alloc (.cells #[.int .u8 (c.toNat : Int)] 5)) = .ok v' w' ∧ Own w' B v' (xs ++ [c]) ∧ Below B w w' := by
  obtain ⟨v', w', hr, ho, hb⟩ := own_app (w.alloc (.cells #[.int .u8 (c.toNat : Int)] 5)) B v xs (h.up (below_alloc _ _)) (by simp; omega) (some ⟨w.heap.size, 0, none⟩) 1 [c] (Bd.new w [c] 5 (0, 0)) (fun e => by cases e) hx (by simp)
  exact ⟨v', w', hr, ho, ((below_alloc w _).mono hB).trans hb⟩
end Go.Proofs.YtndgglhppoijnaaGreatDoor
