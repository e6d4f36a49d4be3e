/-
  Rows of the call's own: bytes, complex numbers; the walks of the document's number and Text.
-/
import Derived.Test.YtbgggbkmnfppoaaGreatDoorVi
import Derived.Laws.AppendOwnNone
import Derived.Deep.MidRow
namespace Go.Proofs.YtbgggbkmnfppoaaGreatDoor
open Go.RowKit
open Go.Lib
set_option maxRecDepth 100000

theorem wpList_append_run {P : Program} {w : World} {ops : Array Oper} {rest : List Oper} {o : Oper} {a : Act} {Q : Exit → Act → World → Prop} (hgd : o.guard = none) (s x : Operand) (t : TypeId)
    (ho : o.op = .call { callee := .builtin .append, args := #[s, x], argTypes := #[t, t] }) (hty : o.type = t) (v u : Value) (hs : a.eval s = v) (hx : a.eval x = u)
    (v' : Value) (w' : World) (hrun : (Builtin.append_ #[t, t] t #[v, u]).run P w = .ok v' w') (h : wpList P ops Q rest (a.put o.dst v') w') : wpList P ops Q (o :: rest) a w := by
  refine wpList_plain hgd fun K hK => ?_
  rw [← hty] at hrun
  unfold Oper.wp
  rw [hty] at hrun
  simp only [execOp, ho, resolve, invoke, builtin, Sem.run_bind, Sem.run_pure, Result.andThen_ok, List.map_toArray, List.map_cons, List.map_nil, hs, hx, hty, hrun]
  exact hK _ _ h

/-- What stays where a row of these elements is written: what lies below B; every block of other things. -/
structure Kt (B : Nat) (T : TypeId) (w w' : World) : Prop where
  low : Below B w w'
  own : ∀ (c : Nat) (cs : Array Value) (t : TypeId) (fz : Nat × Nat), w.heap[c]? = some (.cells cs t fz) → t ≠ T → w'.heap[c]? = w.heap[c]?
theorem Kt.refl (B : Nat) (T : TypeId) (w : World) : Kt B T w w := ⟨Below.refl _ _, fun _ _ _ _ _ _ => rfl⟩
theorem Kt.trans {B : Nat} {T : TypeId} {w1 w2 w3 : World} (h : Kt B T w1 w2) (k : Kt B T w2 w3) : Kt B T w1 w3 :=
  ⟨h.low.trans k.low, fun c cs t fz e ht => by
    have e1 := h.own c cs t fz e ht
    rw [k.own c cs t fz (e1.trans e) ht, e1]⟩
theorem Kt.of_up {B : Nat} {T : TypeId} {w w' : World} (h : Below w.heap.size w w') (hB : B ≤ w.heap.size) : Kt B T w w' :=
  ⟨h.mono hB, fun c _ _ _ e _ => h.block c (heap_lt e)⟩
theorem Kt.size {B : Nat} {T : TypeId} {w w' : World} (h : Kt B T w w') : w.heap.size ≤ w'.heap.size := h.low.size

theorem owns_up {w w' : World} {B : Nat} {T : TypeId} {k n : Nat} {v : Value} {xs : List Value} (h : w.ownsRow B T k v n xs) (hb : Below w.heap.size w w') : w'.ownsRow B T k v n xs := by
  refine ⟨h.1, ?_⟩
  rcases h.2 with h' | ⟨g, cap, cur, h1, h2, h3, h4⟩
  · exact .inl h'
  · exact .inr ⟨g, cap, cur, h1, h2, by rw [hb.block g (heap_lt h3)]; exact h3, h4⟩
theorem owns_low {w : World} {B : Nat} {T : TypeId} {k n : Nat} {v : Value} {xs : List Value} (h : w.ownsRow B T k v n xs) : ∀ j, v.ownBlock = some j → B ≤ j := by
  intro j hj
  rcases h.2 with ⟨rfl, _⟩ | ⟨g, cap, cur, rfl, h2, _⟩
  · simp [Value.ownBlock] at hj
  · simp [Value.ownBlock] at hj; omega
theorem owns_ne {w : World} {B : Nat} {e T : TypeId} {k n : Nat} {v : Value} {xs : List Value} {b : Nat} {cs : Array Value} {fr : Nat × Nat} (hown : w.ownsRow B e k v n xs) (hb : w.heap[b]? = some (.cells cs T fr)) (hTe : T ≠ e) : v.ownBlock ≠ some b := by
  rcases hown.2 with ⟨rfl, _⟩ | ⟨g, cap, cur, rfl, _, hg, _⟩
  · simp [Value.ownBlock]
  · intro h
    simp only [Value.ownBlock, Option.some.injEq] at h
    subst h
    rw [hg] at hb
    simp only [Option.some.injEq, Obj.cells.injEq] at hb
    exact hTe hb.2.1.symm
theorem owns_slice {w : World} {B : Nat} {T : TypeId} {k n : Nat} {v : Value} {xs : List Value} (h : w.ownsRow B T k v n xs) : ∃ ao cap, v = .slice ao n cap ∧ n ≤ cap ∧ cap ≤ maxLen := by
  rcases h.2 with ⟨rfl, rfl⟩ | ⟨g, cap, cur, rfl, _, _, h1, h2, _⟩
  · exact ⟨none, 0, rfl, Nat.le_refl _, Nat.zero_le _⟩
  · exact ⟨_, _, rfl, h1, h2⟩

/-- One element just laid, appended. -/
theorem own_one (T ts : TypeId) (k bytes : Nat) (i0 : TypeInfo) (z : Value) (hu : Tryz.prog.underlying ts = some (.slice T)) (hi : Tryz.prog.info? T = some i0) (hz0 : i0.zero = some z) (hz1 : i0.size = k) (hz2 : i0.bytes = bytes) (hzs : z.cells.size = k) (hk : 0 < k)
    (w : World) (B : Nat) (v : Value) (n : Nat) (xs : List Value) (cs : Array Value) (h : w.ownsRow B T k v n xs) (hB : B ≤ w.heap.size) (hc : cs.size = k) (h1 : ∀ u ∈ cs, u.oneCell' = true) (hn : n + 1 ≤ maxLen) (hb : (n + 1) * bytes ≤ 140737488355328) :
    ∃ v' w', (Builtin.append_ #[ts, ts] ts #[v, .slice (some ⟨w.heap.size, 0, none⟩) 1 1]).run Tryz.prog (w.alloc (.cells cs T)) = .ok v' w' ∧ w'.ownsRow B T k v' (n + 1) (xs ++ cs.toList) ∧ Kt B T w w' := by
  have hcl : ∀ j, (w.alloc (.cells cs T)).cell? ⟨w.heap.size, j, none⟩ = cs[j]? := by
    intro j
    rw [cell_of_row (w.alloc (.cells cs T)) w.heap.size j _ _ _ (heap_alloc_new w _)]
  have hnews : ∀ j u, cs.toList[j]? = some u → (w.alloc (.cells cs T)).cell? ((⟨w.heap.size, 0, none⟩ : Addr).add j) = some u := by
    intro j u hj
    have e : (⟨w.heap.size, 0, none⟩ : Addr).add j = ⟨w.heap.size, j, none⟩ := by rw [Addr.add_mid, Nat.zero_add]
    rw [e, hcl j]
    simpa using hj
  obtain ⟨v', w', hr, ho, hgr, _⟩ := run_append_own (P := Tryz.prog) (w.alloc (.cells cs T)) B ts ts T i0 z k bytes hu hi hz0 hz1 hz2 hzs hk v n xs (owns_up h (below_alloc _ _)) ⟨w.heap.size, 0, none⟩ 1 1 cs.toList (by simp [hc]) hnews
    (by intro u hu'; exact h1 u (by simpa using hu')) hn hb (by simp; omega)
  refine ⟨v', w', hr, ho, ?_⟩
  have hu2 := owns_up h (below_alloc w (.cells cs T))
  have hK : Kt B T (w.alloc (.cells cs T)) w' := by
    refine ⟨(Below.refl B _).grown hgr (by simp; omega) (owns_low hu2), fun c ds t fz e ht => ?_⟩
    exact hgr.block c (heap_lt e) fun e2 => owns_ne hu2 e ht e2.symm
  exact (Kt.of_up (below_alloc _ _) hB).trans hK

/-- Bytes, complex numbers of the call's own. -/
def OwB (w : World) (B : Nat) (v : Value) (l : List UInt8) : Prop := w.ownsRow B 5 1 v l.length (Lib.byteCells l)
def OwZ (w : World) (B : Nat) (v : Value) (zs : List Wz) : Prop := w.ownsRow B 32 1 v zs.length (zs.map cx)

theorem Tryz.infoZ : (Tryz.prog.info? 32).map (fun i => (i.zero, i.size, i.bytes)) = some (some (.complex .f64 0 0), 1, 16) := by kernel_rfl
theorem Tryz.underZs : Tryz.prog.underlying 33 = some (.slice 32) := by kernel_rfl

theorem own_byte (w : World) (B : Nat) (v : Value) (l : List UInt8) (c : UInt8) (h : OwB w B v l) (hB : B ≤ w.heap.size) (hn : l.length < 140737488355328) :
    ∃ v' w', (Builtin.append_ #[55, 55] 55 #[v, .slice (some ⟨w.heap.size, 0, none⟩) 1 1]).run Tryz.prog (w.alloc (.cells #[.int .u8 (c.toNat : Int)] 5)) = .ok v' w' ∧ OwB w' B v' (l ++ [c]) ∧ Kt B 5 w w' := by
  obtain ⟨i0, hi, hz⟩ := Option.map_eq_some_iff.1 Tryz.infoB
  simp only [Prod.mk.injEq] at hz
  obtain ⟨v', w', hr, ho, hk⟩ := own_one 5 55 1 1 i0 (.int .u8 0) Tryz.underBs hi hz.1 hz.2.1 hz.2.2 rfl (by decide) w B v l.length _ #[.int .u8 (c.toNat : Int)] h hB rfl (by intro u hu; simp at hu; subst hu; rfl) (by unfold maxLen; omega) (by omega)
  refine ⟨v', w', hr, ?_, hk⟩
  unfold OwB
  rw [List.length_append, Lib.byteCells_append]
  exact ho

theorem own_cx (w : World) (B : Nat) (v : Value) (zs : List Wz) (z : Wz) (h : OwZ w B v zs) (hB : B ≤ w.heap.size) (hn : zs.length < 8796093022208) :
    ∃ v' w', (Builtin.append_ #[33, 33] 33 #[v, .slice (some ⟨w.heap.size, 0, none⟩) 1 1]).run Tryz.prog (w.alloc (.cells #[.complex .f64 z.1 z.2] 32)) = .ok v' w' ∧ OwZ w' B v' (zs ++ [z]) ∧ Kt B 32 w w' := by
  obtain ⟨i0, hi, hz⟩ := Option.map_eq_some_iff.1 Tryz.infoZ
  simp only [Prod.mk.injEq] at hz
  obtain ⟨v', w', hr, ho, hk⟩ := own_one 32 33 1 16 i0 (.complex .f64 0 0) Tryz.underZs hi hz.1 hz.2.1 hz.2.2 rfl (by decide) w B v zs.length _ #[.complex .f64 z.1 z.2] h hB rfl (by intro u hu; simp at hu; subst hu; rfl) (by unfold maxLen; omega) (by omega)
  refine ⟨v', w', hr, ?_, hk⟩
  unfold OwZ
  rw [List.length_append, List.map_append]
  exact ho

/-- A text appended to bytes of the call's own. -/
theorem own_str (w : World) (B : Nat) (v : Value) (l s : List UInt8) (h : OwB w B v l) (hB : B ≤ w.heap.size) (hn : l.length + s.length ≤ 140737488355328) :
    ∃ v' w', (Builtin.append_ #[55, 9] 55 #[v, .string (bs s)]).run Tryz.prog w = .ok v' w' ∧ OwB w' B v' (l ++ s) ∧ Kt B 5 w w' := by
  obtain ⟨i0, hi, hz⟩ := Option.map_eq_some_iff.1 Tryz.infoB
  simp only [Prod.mk.injEq] at hz
  have hl : (bs s).size = s.length := bs_size s
  obtain ⟨v', w', hr, ho, hgr, _⟩ := Lib.run_append_own_string (P := Tryz.prog) w B 55 9 55 5 i0 Tryz.underBs Tryz.strU hi hz.1 hz.2.1 hz.2.2 v l.length _ h (bs s) (by rw [hl]; unfold maxLen; omega) (by rw [hl]; omega) hB
  refine ⟨v', w', hr, ?_, ?_⟩
  · unfold OwB
    rw [Lib.byteCells_append, List.length_append]
    rw [hl, Lib.strCells_eq, bs_list] at ho
    exact ho
  · refine ⟨(Below.refl B w).grown hgr hB (owns_low h), fun c ds t fz e ht => ?_⟩
    exact hgr.block c (heap_lt e) fun e2 => owns_ne h e ht e2.symm

theorem wpList_append_str {P : Program} {w : World} {ops : Array Oper} {rest : List Oper} {o : Oper} {a : Act} {Q : Exit → Act → World → Prop} (hgd : o.guard = none) (s x : Operand) (t r : TypeId)
    (ho : o.op = .call { callee := .builtin .append, args := #[s, x], argTypes := #[t, r] }) (hty : o.type = t) (v u : Value) (hs : a.eval s = v) (hx : a.eval x = u)
    (v' : Value) (w' : World) (hrun : (Builtin.append_ #[t, r] t #[v, u]).run P w = .ok v' w') (h : wpList P ops Q rest (a.put o.dst v') w') : wpList P ops Q (o :: rest) a w := by
  refine wpList_plain hgd fun K hK => ?_
  rw [← hty] at hrun
  unfold Oper.wp
  rw [hty] at hrun
  simp only [execOp, ho, resolve, invoke, builtin, Sem.run_bind, Sem.run_pure, Result.andThen_ok, List.map_toArray, List.map_cons, List.map_nil, hs, hx, hty, hrun]
  exact hK _ _ h

set_option maxHeartbeats 1000000 in
theorem number_any (z : Zn) (hz : okZ z) (w : World) :
    Calls Tryz.prog 26 #[.complex .f64 (wz z).1 (wz z).2] w fun e w' => e = .returned (.string (bs (txZ z))) ∧ Below w.heap.size w w' := by
  have ho := fun W => ofb_any (wz z) W (wz_lt hz)
  have hv := vc_wz hz
  have e1 : ofX (wz z).1 (wz z).2 = z.1 := by unfold ofX; rw [hv]; exact nb_fl _ (okZ53 hz).1
  have e2 : ofY (wz z).1 (wz z).2 = z.2 := by unfold ofY; rw [hv]; exact nb_fl _ (okZ53 hz).2
  rw [e1, e2, hv] at ho
  have ht := fun W => rtext_w z.1 z.2 W hz.1 hz.2
  have HX : Hid (txZ z = txt z.1 z.2) := rfl
  rw [HX.out]
  clear e1 e2 hv
  generalize wz z = y at *
  go_enter Tryz.func26, Tryz.ntmps26
  go_wp2_with fail
  refine (ho _).mono ?_
  rintro e w1 ⟨rfl, hb1⟩
  go_wp2_with fail
  refine (ht _).mono ?_
  rintro e w2 ⟨rfl, hb2⟩
  go_wp2
  go_ret
  exact ⟨rfl, Below.thn hb1 (Below.thn (below_alloc _ _) hb2)⟩
end Go.Proofs.YtbgggbkmnfppoaaGreatDoor
