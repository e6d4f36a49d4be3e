/-
  Values of a law that came in, opened; from the row's condition to what lies in memory.
-/
import Derived.Test.YtbgggbkmnfppoaaGreatDoorVt
import Derived.Test.YtbgggbkmnfppoaaGreatDoorCards
import Derived.Test.YtbgggbkmnfppoaaGreatDoorTie
import Derived.ProofKit
import Derived.LaidMore
import Derived.LaidSub
import Derived.LaidLaws
import Derived.Lib.LaidTab
import Derived.Lib.LaidU8T
import Derived.OpenShut
import Derived.Stop.Joined
import Derived.SevenTiedAt
import Derived.Lib.SmallJoins
import Derived.SizedLaws
import Derived.Carry
import Derived.Deep.DeepHandedRow
namespace Go.Proofs.YtbgggbkmnfppoaaGreatDoor
open Go.ChangeShapes Go.WideShapes Go.ChangeAt Go.RowKit Go.Joins
open Go.Lib
set_option maxRecDepth 100000

theorem own : ownKnob Tryz.prog.godebug = none := by kernel_rfl
theorem laidOut : laidOutB Tryz.prog = true := by kernel_rfl

theorem tab_of_list {l : List (String × DataW Unit)} {W : World} (h : laidMetH Tryz.prog l W)
    (e : (l.filter fun x => x.1 == "internal/strconv.uint64pow10") = [("internal/strconv.uint64pow10", Lib.tabData .u64 Lib.pow10Tab)]) : Tab W := by
  have h1 := h.filter (fun x => x.1 == "internal/strconv.uint64pow10")
  rw [e, MakeChecks.laidMetH_plain _ _ _ (by kernel_rfl)] at h1
  exact Lib.tabIs_of_head (g := 4) (t := 154) (e := 81) (n := 20) (by kernel_rfl) (by kernel_rfl) (by kernel_rfl) (by kernel_rfl) (by kernel_rfl) (by kernel_rfl) h1

theorem err_of_reads {W : World} {n nm : String} {d : DataW Unit} {g : Nat} (hg : Tryz.prog.globalNamed n = some g) (hy : (Tryz.prog.globals[g]?).map (·.type) = some 91) (h : VarReads Tryz.prog W n (.iface nm d)) :
    ∃ te pe, W.cell? ⟨g, 0, none⟩ = some (.iface te pe) := by
  obtain ⟨g', t, cs, fuel, p, hg', ht, hvar, hd⟩ := h
  obtain rfl := Option.some.inj (hg.symm.trans hg')
  obtain rfl := Option.some.inj (hy.symm.trans ht)
  obtain ⟨_, u, v, hc, _⟩ := iface_of_trod Tryz.underlying91 hd
  refine ⟨u, v, ?_⟩
  rw [World.var?_cell hg hvar 0, ← Array.getElem?_toList, hc]
  rfl

/-- The places of the listed variables. -/
def vAt (n : String) (L : List (String × DataW Unit)) : Nat := (L.findIdx? fun x => x.1 == n).getD 0

theorem env_of {W : World} {L : List (String × DataW Unit)} (hL : L = Rows.valueTextsRow.laid) (h : laidMetH Tryz.prog L W) : Env W := by
  subst hL
  have hp := h
  rw [MakeChecks.laidMetH_plain _ _ _ (by kernel_rfl)] at hp
  have r3 : VarReads Tryz.prog W "unicode/utf8.first" Lib.firstData := Lib.laidMet.reads hp (List.mem_of_getElem? (i := vAt "unicode/utf8.first" Rows.valueTextsRow.laid) (by kernel_rfl))
  have r4 : VarReads Tryz.prog W "unicode/utf8.acceptRanges" Lib.acceptData := Lib.laidMet.reads hp (List.mem_of_getElem? (i := vAt "unicode/utf8.acceptRanges" Rows.valueTextsRow.laid) (by kernel_rfl))
  have r1 : VarReads Tryz.prog W "strconv.ErrSyntax" Rows.laid_strconv_ErrSyntax := Lib.laidMet.reads hp (List.mem_of_getElem? (i := vAt "strconv.ErrSyntax" Rows.valueTextsRow.laid) (by kernel_rfl))
  have r2 : VarReads Tryz.prog W "strconv.ErrRange" Rows.laid_strconv_ErrRange := Lib.laidMet.reads hp (List.mem_of_getElem? (i := vAt "strconv.ErrRange" Rows.valueTextsRow.laid) (by kernel_rfl))
  exact ⟨tab_of_list h (by kernel_rfl),
    utf8Tabs_of_readsT (ρ := Tryz.lays271_ren) ⟨by kernel_rfl, by kernel_rfl, by kernel_rfl, by kernel_rfl⟩ ⟨by kernel_rfl, by kernel_rfl, by kernel_rfl, by kernel_rfl, by kernel_rfl, by kernel_rfl, by kernel_rfl⟩ r3 r4,
    err_of_reads (by kernel_rfl) (by kernel_rfl) r1, err_of_reads (by kernel_rfl) (by kernel_rfl) r2⟩

theorem one_le {H : Type} (d : DataW H) : 1 ≤ Rows.uptoBulk d := by
  cases d with
  | lit l => cases l <;> simp [Rows.uptoBulk]
  | nil => simp [Rows.uptoBulk]
  | ptr d => simp [Rows.uptoBulk]
  | slice elems spare => simp [Rows.uptoBulk]
  | agg parts => simp [Rows.uptoBulk]
  | iface t d => simp [Rows.uptoBulk]
  | map entries => simp [Rows.uptoBulk]
  | held h => simp [Rows.uptoBulk]

theorem length_le {H : Type} (l : List (DataW H)) : l.length ≤ Rows.uptoBulkAll l := by
  induction l with
  | nil => simp [Rows.uptoBulkAll]
  | cons x r ih => have := one_le x; simp only [Rows.uptoBulkAll, List.length_cons]; omega

theorem exists_list {α : Type} (d : α) {n : Nat} {P : Nat → α → Prop} (h : ∀ i, i < n → ∃ q, P i q) : ∃ qs : List α, qs.length = n ∧ ∀ i, i < n → P i (qs.getD i d) := by
  induction n with
  | zero => exact ⟨[], rfl, fun i hi => absurd hi (Nat.not_lt_zero _)⟩
  | succ n ih =>
    obtain ⟨qs, hl, hq⟩ := ih (fun i hi => h i (by omega))
    obtain ⟨q, hqn⟩ := h n (by omega)
    refine ⟨qs ++ [q], by simp [hl], fun i hi => ?_⟩
    by_cases hin : i < n
    · have := hq i hin
      rw [List.getD_eq_getElem?_getD] at this ⊢
      rw [List.getElem?_append_left (by omega)]
      exact this
    · have : i = n := by omega
      subst this
      rw [List.getD_eq_getElem?_getD, List.getElem?_append_right (by omega), hl]
      simpa using hqn

theorem cellsNum : Tryz.prog.cellsOf 23 = 3 := by kernel_rfl
theorem bytesNum : Tryz.prog.bytesOf 23 = 24 := by kernel_rfl
theorem cellsVal : Tryz.prog.cellsOf 26 = 6 := by kernel_rfl

theorem open_num {H : Type} {enc : TypeId × Value → H} {w : World} {base : Nat} {sp : Nat → Bool} {held : Bool} {fuel : Nat} {cs : List Value} {x : DataW H × List MemPlace}
    (h : DataW.trod enc Tryz.prog w base sp held fuel 23 cs = some x) : ∃ q : Nq, cs = [.int .i64 q.x, .int .i64 q.y, .bool q.r] := by
  obtain ⟨y0, y1, y2, n, rfl, hl, h0, h1, h2⟩ := Go.Deep.trod_struct3 Tryz.underlying23 h
  rw [cellsNum] at hl
  match cs, hl with
  | [c0, c1, c2], _ =>
    simp only [show Tryz.prog.cellsOf 3 = 1 by kernel_rfl, show Tryz.prog.cellsOf 4 = 1 by kernel_rfl, List.drop_zero, List.drop_succ_cons, List.take_succ_cons, List.take_zero] at h0 h1 h2
    obtain ⟨a, e0, _, _⟩ := DataW.trod_int Tryz.underlying3 h0
    obtain ⟨b, e1, _, _⟩ := DataW.trod_int Tryz.underlying3 h1
    obtain ⟨r, e2, _⟩ := DataW.trod_bool Tryz.underlying4 h2
    simp at e0 e1 e2
    exact ⟨⟨a, b, r⟩, by rw [e0, e1, e2]⟩

/-- A slice of a law's numbers, opened. -/
theorem open_nums {H : Type} {enc : TypeId × Value → H} {w : World} {sp : Nat → Bool} {held : Bool} {fuel : Nat} {c : Value} {x : DataW H × List MemPlace}
    (h : DataW.trod enc Tryz.prog w 0 sp held fuel 24 [c] = some x) :
    ∃ (ao : Option Addr) (cap : Nat) (qs : List Nq), c = .slice ao qs.length cap ∧ Nr w ao qs ∧ qs.length ≤ Rows.uptoBulk x.1 ∧ ((x.1.weights Tryz.prog 24).all (· ≤ reachBytes) = true → qs.length ≤ 5864062014806) ∧ qs.length ≤ cap ∧ (ao = none → cap = 0) := by
  rcases DataW.trod_slice Tryz.underlying24 h with ⟨hcs, rfl⟩ | ⟨a, len, cap, elems, rest, n, _, hcs, rfl, _, hlc, _, hel, hat, _⟩
  · simp at hcs
    subst hcs
    exact ⟨none, 0, [], rfl, ⟨fun h => absurd rfl h⟩, by simp, fun _ => by simp, Nat.le_refl _, fun _ => rfl⟩
  · simp at hcs
    subst hcs
    obtain ⟨b, off, spot⟩ := a
    rw [cellsNum] at hat
    have pre : ∀ i, i < len → ∃ q : Nq, w.cell? (((⟨b, off, spot⟩ : Addr).add (i * 3)).add 0) = some (.int .i64 q.x) ∧ w.cell? (((⟨b, off, spot⟩ : Addr).add (i * 3)).add 1) = some (.int .i64 q.y) ∧ w.cell? (((⟨b, off, spot⟩ : Addr).add (i * 3)).add 2) = some (.bool q.r) := by
      intro i hi
      have h1 := hat i hi
      have hlt : i < elems.length := by omega
      rw [List.getElem?_eq_getElem hlt] at h1
      obtain ⟨cs, hc, ht⟩ := Option.bind_eq_some_iff.1 h1
      obtain ⟨q, rfl⟩ := open_num ht
      obtain ⟨_, _, hcell⟩ := World.cells?_some hc
      exact ⟨q, hcell 0 (by decide), hcell 1 (by decide), hcell 2 (by decide)⟩
    have one : ∀ i, i < len → ∃ q : Nq, spot = none ∧ N3 w b (off + i * 3) q := by
      intro i hi
      obtain ⟨q0, c0, _, _⟩ := pre 0 (by omega)
      have hspot : spot = none := by simpa [Addr.add] using World.cell?_spot c0
      subst hspot
      obtain ⟨q, c0, c1, c2⟩ := pre i hi
      simp only [Addr.add_mid] at c0 c1 c2
      exact ⟨q, rfl, c0, c1, c2⟩
    obtain ⟨qs, hql, hq⟩ := exists_list qn one
    subst hql
    refine ⟨some ⟨b, off, spot⟩, cap, qs, rfl, ⟨fun hne => ?_⟩, ?_, ?_, hlc, fun e => by cases e⟩
    · have hp : 0 < qs.length := List.length_pos_iff.2 hne
      obtain ⟨rfl, _⟩ := hq 0 hp
      exact ⟨b, off, rfl, fun t ht => (hq t ht).2⟩
    · have := length_le (elems.map (·.1))
      simp only [Rows.uptoBulk]
      rw [List.length_map] at this
      omega
    · intro hz
      simp only [DataW.weights, Tryz.underlying24, List.all_cons, Bool.and_eq_true, reachBytes, bytesNum, List.length_map] at hz
      have hz1 := of_decide_eq_true hz.1
      omega

/-- A law's value, opened. -/
theorem open_valC {H : Type} {enc : TypeId × Value → H} {w : World} {sp : Nat → Bool} {held : Bool} {fuel : Nat} {cs : List Value} {x : DataW H × List MemPlace}
    (h : DataW.trod enc Tryz.prog w 0 sp held fuel 26 cs = some x) :
    ∃ (ao : Option Addr) (cap : Nat) (q : Qv), cs = [.int .i64 q.t, .int .i64 q.z.x, .int .i64 q.z.y, .bool q.z.r, .bool q.b, .slice ao q.l.length cap] ∧ Nr w ao q.l ∧ q.l.length ≤ Rows.uptoBulk x.1 ∧
      ((x.1.weights Tryz.prog 26).all (· ≤ reachBytes) = true → q.l.length ≤ 5864062014806) ∧ (Lit.int .i64 q.t).wf = true := by
  obtain ⟨y0, y1, y2, y3, n, rfl, hl, h0, h1, h2, h3⟩ := trod_struct4 Tryz.underlying26 h
  rw [cellsVal] at hl
  match cs, hl with
  | [c0, c1, c2, c3, c4, c5], _ =>
    simp only [show Tryz.prog.cellsOf 3 = 1 by kernel_rfl, show Tryz.prog.cellsOf 4 = 1 by kernel_rfl, cellsNum, show Tryz.prog.cellsOf 24 = 1 by kernel_rfl, List.drop_zero, List.drop_succ_cons, List.take_succ_cons, List.take_zero] at h0 h1 h2 h3
    obtain ⟨t, e0, rfl, wt⟩ := DataW.trod_int Tryz.underlying3 h0
    obtain ⟨z, e1⟩ := open_num h1
    obtain ⟨b, e2, rfl⟩ := DataW.trod_bool Tryz.underlying4 h2
    obtain ⟨ao, cap, qs, rfl, hr, hu, hw, _, _⟩ := open_nums h3
    simp at e0 e1 e2
    refine ⟨ao, cap, ⟨t, z, b, qs⟩, by rw [e0, e1.1, e1.2.1, e1.2.2, e2], hr, ?_, ?_, wt⟩
    · simp only [Rows.uptoBulk, Rows.uptoBulkAll]
      omega
    · intro hz
      apply hw
      simp only [DataW.weights, Tryz.underlying26, List.map_cons, List.map_nil, DataW.weightsEach, List.all_append, Bool.and_eq_true] at hz
      exact hz.2.2.2.1

theorem open_val {H : Type} {enc : TypeId × Value → H} {w : World} {r : Reach} {b0 : Nat} {v : Value} {d : DataW H} {p : List MemPlace}
    (hv : Value.okWide Tryz.prog w r b0 26 v) (h : DataW.Trod enc Tryz.prog w 0 (fun _ => true) true 26 v d p) :
    ∃ (ao : Option Addr) (cap : Nat) (q : Qv), v = qV ao cap q ∧ Nr w ao q.l ∧ q.l.length ≤ Rows.uptoBulk d ∧ ((d.weights Tryz.prog 26).all (· ≤ reachBytes) = true → q.l.length ≤ 5864062014806) ∧ (Lit.int .i64 q.t).wf = true := by
  obtain ⟨cs, rfl, _⟩ := okWide_struct Tryz.underlying26 hv
  obtain ⟨fuel, hf⟩ := h
  obtain ⟨ao, cap, q, e, hr, hu, hw, wt⟩ := open_valC hf
  refine ⟨ao, cap, q, ?_, hr, hu, hw, wt⟩
  unfold qV
  congr 1
  apply Array.ext'
  simpa [Value.cells] using e
end Go.Proofs.YtbgggbkmnfppoaaGreatDoor
