/-
  The walk of the document's Apply, whatever it is handed; rows of values of the call's own; the walk of PrimApplies.
-/
import Derived.Test.YtebpjcjoapahnaaPy
import Derived.Test.YtebpjcjoapahnaaVy
namespace Go.Proofs.Ytebpjcjoapahnaa
open Go.RowKit
set_option maxRecDepth 100000

theorem tk_nonneg (op : Int) : 0 ≤ tkN op := by unfold tkN; split <;> (try split) <;> omega

theorem eqZ_parts {a b : Wz} (ha : vc a.1 a.2 = true) (hb : vc b.1 b.2 = true) : feW a b = ((nb a.1 == nb b.1) && (nb a.2 == nb b.2)) := by
  obtain ⟨p1, p2⟩ := wz_of ha
  obtain ⟨q1, q2⟩ := wz_of hb
  rw [feW_vc ha hb, Bool.eq_iff_iff]
  simp only [decide_eq_true_eq, Bool.and_eq_true, beq_iff_eq]
  constructor
  · intro h; rw [h]; exact ⟨rfl, rfl⟩
  · rintro ⟨h1, h2⟩
    rw [← p2, ← q2, h1, h2]

theorem rv_eta {v : Rv} (h : v.zs = []) : v = ⟨v.t, (v.z.1, v.z.2), v.r, []⟩ := by
  obtain ⟨t, ⟨x, y⟩, r, zs⟩ := v
  simp only at h
  rw [h]

set_option maxHeartbeats 1000000 in
theorem rapply_any (op : Int) (ao : Option Addr) (cap : Nat) (l : List Ai) (w : World) (h : Ar w ao l) (hl : l.length < 2500000000000) :
    Calls Try.prog 13 #[.int .i64 op, .slice ao l.length cap] w fun e w' => e = .returned (.tuple #[.agg #[.int .i64 (apV op (l.map (·.2.2))).t, .complex .f64 (apV op (l.map (·.2.2))).z.1 (apV op (l.map (·.2.2))).z.2, .bool (apV op (l.map (·.2.2))).r, .slice none 0 0], .int .i64 (apE op (l.map (·.2.2)))]) ∧ Below w.heap.size w w' := by
  obtain ⟨B, hF⟩ : ∃ B, fitB op (l.map (·.2.2)) = B := ⟨_, rfl⟩
  cases B with
  | false =>
    rw [(ap_bad hF).1, (ap_bad hF).2]
    by_cases hp : 0 < tkN op ∧ (l.length : Int) = tkN op
    · refine rapply_bad1 op ao cap l w h hl hp ?_
      unfold fitB at hF
      rw [List.length_map] at hF
      have e1 : (decide (tkN op ≠ 0) && decide ((l.length : Int) = tkN op)) = true := by simp; omega
      rw [e1, Bool.true_and] at hF
      exact hF
    · exact rapply_bad0 op ao cap l.length w hp
  | true =>
    rcases fit_cases hF with ⟨ho, a, b, hv, ha, hb⟩ | ⟨rfl, r, hv⟩ | ⟨ho, a, hv, ha⟩
    · have hn : l.length = 2 := by have := congrArg List.length hv; simpa using this
      rw [hn, hv]
      rw [hv] at hF
      have h6 : op = 8 ∨ op = 9 ∨ op = 10 ∨ op = 11 ∨ op = 12 ∨ op = 13 := by omega
      rcases h6 with rfl | rfl | rfl | rfl | rfl | rfl
      · rw [(ap_two hF (by omega)).1, (ap_two hF (by omega)).2]
        exact rgood_8 ao cap l w h a b hv ha hb (hV := show _ = _ from rv_eta (nuR_zs _ _)) (hE := show _ = _ from rfl)
      · rw [(ap_two hF (by omega)).1, (ap_two hF (by omega)).2]
        exact rgood_9 ao cap l w h a b hv ha hb (hV := show _ = _ from rv_eta (nuR_zs _ _)) (hE := show _ = _ from rfl)
      · rw [(ap_two hF (by omega)).1, (ap_two hF (by omega)).2]
        exact rgood_10 ao cap l w h a b hv ha hb (hV := show _ = _ from rv_eta (nuR_zs _ _)) (hE := show _ = _ from rfl)
      · rw [(ap_two hF (by omega)).1, (ap_two hF (by omega)).2]
        exact rgood_11 ao cap l w h a b hv ha hb (hV := show _ = _ from rv_eta (nuR_zs _ _)) (hE := show _ = _ from rfl)
      · rw [(ap_eq hF).1, (ap_eq hF).2, eqZ_parts ha hb]
        simp only [rb]
        cases h1 : (nb a.1 == nb b.1) with
        | false => exact rgood_12a ao cap l w h a b hv ha hb h1
        | true =>
          cases h2 : (nb a.2 == nb b.2) with
          | false => exact rgood_12b ao cap l w h a b hv ha hb h1 h2
          | true => exact rgood_12c ao cap l w h a b hv ha hb h1 h2
      · rw [(ap_less hF).1, (ap_less hF).2]
        exact rgood_13 ao cap l w h a b hv ha hb _ rfl
    · have hn : l.length = 1 := by have := congrArg List.length hv; simpa using this
      rw [hn, hv]
      rw [hv] at hF
      rw [(ap_not hF).1, (ap_not hF).2]
      exact rgood_14 ao cap l w h r hv
    · have hn : l.length = 1 := by have := congrArg List.length hv; simpa using this
      rw [hn, hv]
      rw [hv] at hF
      have h3 : op = 15 ∨ op = 16 ∨ op = 17 := by omega
      rcases h3 with rfl | rfl | rfl
      · rw [(ap_one hF ho).1, (ap_one hF ho).2]
        exact rgood_15 ao cap l w h a hv ha
      · rw [(ap_one hF ho).1, (ap_one hF ho).2]
        exact rgood_16 ao cap l w h a hv ha
      · rw [(ap_one hF ho).1, (ap_one hF ho).2]
        exact rgood_17 ao cap l w h a hv ha _ rfl

/-- A law's value in a row: where its list lies, its room, the value. -/
abbrev Qi := Option Addr × Nat × Qv
def qi0 : Qi := (none, 0, ⟨0, ⟨0, 0, false⟩, false, []⟩)
/-- Six cells that are a law's value, and its list. -/
structure Q7 (w : World) (b o : Nat) (i : Qi) : Prop where
  c0 : w.cell? ⟨b, o, none⟩ = some (.int .i64 i.2.2.t)
  c1 : w.cell? ⟨b, o + 1, none⟩ = some (.int .i64 i.2.2.z.x)
  c2 : w.cell? ⟨b, o + 2, none⟩ = some (.int .i64 i.2.2.z.y)
  c3 : w.cell? ⟨b, o + 3, none⟩ = some (.bool i.2.2.z.r)
  c4 : w.cell? ⟨b, o + 4, none⟩ = some (.bool i.2.2.b)
  c5 : w.cell? ⟨b, o + 5, none⟩ = some (.slice i.1 i.2.2.l.length i.2.1)
  nr : Nr w i.1 i.2.2.l
theorem Q7.lt {w : World} {b o : Nat} {i : Qi} (h : Q7 w b o i) : b < w.heap.size := cell_lt h.c0
theorem Q7.up {w w' : World} {b o : Nat} {i : Qi} (h : Q7 w b o i) (hb : Below w.heap.size w w') : Q7 w' b o i :=
  ⟨(hb.cell h.lt).trans h.c0, (hb.cell h.lt).trans h.c1, (hb.cell h.lt).trans h.c2, (hb.cell h.lt).trans h.c3, (hb.cell h.lt).trans h.c4, (hb.cell h.lt).trans h.c5, h.nr.up hb⟩
/-- What a slice of a law's values reads. -/
structure Qs (w : World) (ao : Option Addr) (l : List Qi) : Prop where
  pl : l ≠ [] → ∃ b off, ao = some ⟨b, off, none⟩ ∧ ∀ t, t < l.length → Q7 w b (off + t * 6) (l.getD t qi0)
theorem Qs.up {w w' : World} {ao : Option Addr} {l : List Qi} (h : Qs w ao l) (hb : Below w.heap.size w w') : Qs w' ao l := by
  refine ⟨fun hn => ?_⟩
  obtain ⟨b, off, e, hc⟩ := h.pl hn
  exact ⟨b, off, e, fun t ht => (hc t ht).up hb⟩


/-- A value with a list of the call's own. -/
def aiC (i : Ai) : List Value := [.int .i64 i.2.2.t, .complex .f64 i.2.2.z.1 i.2.2.z.2, .bool i.2.2.r, .slice i.1 i.2.2.zs.length i.2.1]
structure AW (w : World) (B : Nat) (i : Ai) : Prop where
  z : ltZ i.2.2.z
  lt : ∀ z ∈ i.2.2.zs, ltZ z
  own : OwZ w B (.slice i.1 i.2.2.zs.length i.2.1) i.2.2.zs
  n : i.2.2.zs.length ≤ 5864062014806
/-- A row of them. -/
structure AR (w : World) (B : Nat) (v : Value) (its : List Ai) : Prop where
  row : w.ownsRow B 32 4 v its.length (its.flatMap aiC)
  its : ∀ i ∈ its, AW w B i
theorem AR.nil (w : World) (B : Nat) : AR w B (.slice none 0 0) [] := ⟨⟨rfl, .inl ⟨rfl, rfl⟩⟩, fun i hi => by simp at hi⟩
theorem AW.up {w w' : World} {B : Nat} {i : Ai} (h : AW w B i) (hb : Below w.heap.size w w') : AW w' B i := ⟨h.z, h.lt, owns_up h.own hb, h.n⟩
theorem AR.up {w w' : World} {B : Nat} {v : Value} {its : List Ai} (h : AR w B v its) (hb : Below w.heap.size w w') : AR w' B v its := ⟨owns_up h.row hb, fun i hi => (h.its i hi).up hb⟩
theorem AW.vr {w : World} {B : Nat} {i : Ai} (h : AW w B i) : Vr w i.1 i.2.2 := by
  obtain ⟨ao2, c2, e2, _, hzr⟩ := h.own.zr h.lt
  have hao : i.1 = ao2 := by simp only [Value.slice.injEq] at e2; exact e2.1
  rw [← hao] at hzr
  exact ⟨h.z, hzr, h.n⟩
theorem owns_kt {w w' : World} {B C : Nat} {e T : TypeId} {k n : Nat} {v : Value} {xs : List Value} (h : w.ownsRow C e k v n xs) (hK : Kt B T w w') (hT : e ≠ T) : w'.ownsRow C e k v n xs := by
  refine ⟨h.1, ?_⟩
  rcases h.2 with h' | ⟨g, cap, cur, h1, h2, h3, h4⟩
  · exact .inl h'
  · exact .inr ⟨g, cap, cur, h1, h2, (hK.own g _ _ _ h3 hT).trans h3, h4⟩
theorem owns_mono {w : World} {B C : Nat} {e : TypeId} {k n : Nat} {v : Value} {xs : List Value} (h : w.ownsRow B e k v n xs) (hC : C ≤ B) : w.ownsRow C e k v n xs := by
  refine ⟨h.1, ?_⟩
  rcases h.2 with h' | ⟨g, cap, cur, h1, h2, h3⟩
  · exact .inl h'
  · exact .inr ⟨g, cap, cur, h1, Nat.le_trans hC h2, h3⟩
theorem flat_get (its : List Ai) : ∀ (t : Nat) (j : Nat), t < its.length → j < 4 → (its.flatMap aiC)[t * 4 + j]? = (aiC (its.getD t ai0))[j]? := by
  induction its with
  | nil => intro t j h; simp at h
  | cons i r ih =>
    intro t j ht hj
    cases t with
    | zero =>
      simp only [List.flatMap_cons, Nat.zero_mul, Nat.zero_add, List.getD_cons_zero]
      rw [List.getElem?_append_left (by simpa [aiC] using hj)]
    | succ t =>
      simp only [List.flatMap_cons, List.getD_cons_succ]
      rw [List.getElem?_append_right (by simp [aiC]; omega)]
      rw [← ih t j (by simpa using ht) hj]
      congr 1
      simp [aiC]; omega
theorem AR.ar {w : World} {B n cap : Nat} {ao : Option Addr} {its : List Ai} (h : AR w B (.slice ao n cap) its) : n = its.length ∧ Ar w ao its := by
  obtain ⟨x, y, e, _, _⟩ := owns_slice h.row
  simp only [Value.slice.injEq] at e
  obtain ⟨rfl, rfl, rfl⟩ := e
  refine ⟨rfl, fun hne => ?_, fun i hi => (h.its i hi).vr⟩
  rcases h.row.2 with ⟨e, h0⟩ | ⟨g, cap', cur, e, _, _, _, _⟩
  · exact absurd (List.length_eq_zero_iff.1 h0) hne
  · simp only [Value.slice.injEq] at e
    obtain ⟨rfl, _, rfl⟩ := e
    refine ⟨g, 0, rfl, fun t ht => ?_⟩
    have hc := fun j v (hj : (its.flatMap aiC)[j]? = some v) => h.row.cells (g := g) rfl j v hj
    have c0 := hc (t * 4 + 0) _ (by rw [flat_get its t 0 ht (by omega)]; rfl)
    have c1 := hc (t * 4 + 1) _ (by rw [flat_get its t 1 ht (by omega)]; rfl)
    have c2 := hc (t * 4 + 2) _ (by rw [flat_get its t 2 ht (by omega)]; rfl)
    have c3 := hc (t * 4 + 3) _ (by rw [flat_get its t 3 ht (by omega)]; rfl)
    simp only [Addr.add_mid] at c0 c1 c2 c3
    exact ⟨c0, by rw [Nat.add_assoc]; exact c1, by rw [Nat.add_assoc]; exact c2, by rw [Nat.add_assoc]; exact c3⟩

theorem Try.infoVv : (Try.prog.info? 32).map (fun i => (i.zero, i.size, i.bytes)) = some (some (.agg #[.int .i64 0, .complex .f64 0 0, .bool false, .slice none 0 0]), 4, 56) := by kernel_rfl
theorem Try.underVs : Try.prog.underlying 28 = some (.slice 32) := by kernel_rfl
/-- One value more. -/
theorem own_rv (w : World) (B : Nat) (v : Value) (its : List Ai) (i : Ai) (h : AR w B v its) (hi : AW w B i) (hB : B ≤ w.heap.size) (hn : its.length < 2500000000000) :
    ∃ v' w', (Builtin.append_ #[28, 28] 28 #[v, .slice (some ⟨w.heap.size, 0, none⟩) 1 1]).run Try.prog (w.alloc (.cells #[.int .i64 i.2.2.t, .complex .f64 i.2.2.z.1 i.2.2.z.2, .bool i.2.2.r, .slice i.1 i.2.2.zs.length i.2.1] 32)) = .ok v' w' ∧ AR w' B v' (its ++ [i]) ∧ Kt B 32 w w' := by
  obtain ⟨i0, hi0, hz⟩ := Option.map_eq_some_iff.1 Try.infoVv
  simp only [Prod.mk.injEq] at hz
  obtain ⟨v', w', hr, ho, hk⟩ := own_one 32 28 4 56 i0 (.agg #[.int .i64 0, .complex .f64 0 0, .bool false, .slice none 0 0]) Try.underVs hi0 hz.1 hz.2.1 hz.2.2 rfl (by decide) w B v its.length _ #[.int .i64 i.2.2.t, .complex .f64 i.2.2.z.1 i.2.2.z.2, .bool i.2.2.r, .slice i.1 i.2.2.zs.length i.2.1] h.row hB rfl (by intro u hu; exact one4 _ _ _ _ _ _ _ u (by simpa using hu)) (by unfold maxLen; omega) (by omega)
  refine ⟨v', w', hr, ⟨?_, ?_⟩, hk⟩
  · rw [List.length_append, List.flatMap_append]
    simpa [aiC] using ho
  · intro j hj
    have hjw : AW w B j := by
      rcases List.mem_append.1 hj with h1 | h1
      · exact h.its j h1
      · rw [List.mem_singleton.1 h1]; exact hi
    exact ⟨hjw.z, hjw.lt, owns_kt hjw.own hk (by decide), hjw.n⟩

theorem rv_lt (q : Qv) : ltZ q.rv.z ∧ ∀ z ∈ q.rv.zs, ltZ z := by
  refine ⟨q.z.lt, fun z hz => ?_⟩
  obtain ⟨y, _, rfl⟩ := List.mem_map.1 hz
  exact y.lt
end Go.Proofs.Ytebpjcjoapahnaa
