/-
  2 texts in one: what each proves stands at its head.
-/
import Derived.Test.YtndgglhppoijnaaGreatDoorUF
import Derived.Test.YtndgglhppoijnaaGreatDoorCards
import Derived.Test.YtndgglhppoijnaaGreatDoorTie
import Derived.ProofKit
import Derived.LaidMore
import Derived.LaidSub
import Derived.LaidLaws
import Derived.Lib.LaidTab
import Derived.Lib.LaidU8T
import Derived.OpenShut
import Derived.Stop.Joined
import Derived.SevenTiedAt
import Derived.Lib.SmallJoins
import Derived.SizedLaws
import Derived.Carry
import Derived.Deep.DeepHandedRow
/-
  From the row's condition to what lies in memory; a slice of bytes that came in, opened; how much of it there is.
-/
namespace Go.Proofs.YtndgglhppoijnaaGreatDoor
open Go.ChangeShapes Go.WideShapes Go.ChangeAt Go.RowKit Go.Joins
open Go.Lib
set_option maxRecDepth 100000

theorem own : ownKnob Tryz.prog.godebug = none := by kernel_rfl
theorem laidOut : laidOutB Tryz.prog = true := by kernel_rfl
theorem cellsByte : Tryz.prog.cellsOf 5 = 1 := by kernel_rfl
theorem bytesByte : Tryz.prog.bytesOf 5 = 1 := by kernel_rfl

/-- A table of texts, as a row lists it. -/
def strsData {H : Type} (zs : List (List UInt8)) : DataW H := .agg (zs.map fun l => .lit (.string l))

theorem cells_of_strs {H : Type} {enc : TypeId × Value → H} {P : Program} {w : World} {base : Nat} {sp : Nat → Bool} {held : Bool} {fuel : Nat} {t e : TypeId} {n : Nat} {cs : List Value} {zs : List (List UInt8)} {p : List MemPlace}
    (ht : P.underlying t = some (.array n e)) (he : P.underlying e = some .string) (hce : P.cellsOf e = 1) (hct : P.cellsOf t = n)
    (h : DataW.trod enc P w base sp held fuel t cs = some (strsData zs, p)) : cs = zs.map strV := by
  cases fuel with
  | zero => simp [DataW.trod] at h
  | succ fuel =>
    simp only [DataW.trod, ht, hce, hct, Nat.mul_one] at h
    split at h
    · rename_i hl
      obtain ⟨xs, hm, hx⟩ := Option.map_eq_some_iff.1 h
      have hxs : xs.map (·.1) = zs.map fun l => (DataW.lit (.string l) : DataW H) := by
        have := congrArg Prod.fst hx
        simpa [strsData] using this
      have hxl : xs.length = n := by simpa using mapM_length hm
      have hzl : zs.length = n := by
        have := congrArg List.length hxs
        simp at this
        omega
      apply List.ext_getElem?
      intro i
      by_cases hi : i < n
      · obtain ⟨b, hb, hf⟩ := mapM_at hm i i (by simp [hi])
        obtain ⟨s, hc, rfl, _⟩ := DataW.trod_string he hf
        have h1 : cs[i]? = some (.string s) := by
          have := congrArg (·[0]?) hc
          simpa [List.getElem?_take, List.getElem?_drop] using this
        have h2 : (xs.map (·.1))[i]? = some (DataW.lit (.string s.data.toList) : DataW H) := by simp [hb]
        rw [hxs] at h2
        simp only [List.getElem?_map, Option.map_eq_some_iff, DataW.lit.injEq, Lit.string.injEq] at h2
        obtain ⟨z', hz', e'⟩ := h2
        have es : s = bs z' := by apply ByteArray.ext; simp [bs, e']
        simp [h1, hz', strV, es]
      · rw [List.getElem?_eq_none (by omega), List.getElem?_eq_none (by simp; omega)]
    · cases h

theorem strs_of_reads {W : World} {n : String} {zs : List (List UInt8)} {g : Nat} {t : TypeId} {k : Nat} (hg : Tryz.prog.globalNamed n = some g) (hy : (Tryz.prog.globals[g]?).map (·.type) = some t) (ht : Tryz.prog.underlying t = some (.array k 9)) (hct : Tryz.prog.cellsOf t = k)
    (h : VarReads Tryz.prog W n (strsData zs)) : ∀ i, i < zs.length → W.cell? ⟨g, i, none⟩ = some (.string (bs (zs.getD i []))) := by
  obtain ⟨g', t', cs, fuel, p, hg', ht', hvar, hd⟩ := h
  obtain rfl := Option.some.inj (hg.symm.trans hg')
  obtain rfl := Option.some.inj (hy.symm.trans ht')
  have e := cells_of_strs ht (by kernel_rfl) (by kernel_rfl) hct hd
  intro i hi
  rw [World.var?_cell hg hvar i, ← Array.getElem?_toList, e]
  simp [hi, strV, List.getD_eq_getElem?_getD]

theorem tab_of_list {l : List (String × DataW Unit)} {W : World} (h : laidMetH Tryz.prog l W)
    (e : (l.filter fun x => x.1 == "internal/strconv.uint64pow10") = [("internal/strconv.uint64pow10", Lib.tabData .u64 Lib.pow10Tab)]) : Tab W := by
  have h1 := h.filter (fun x => x.1 == "internal/strconv.uint64pow10")
  rw [e, MakeChecks.laidMetH_plain _ _ _ (by kernel_rfl)] at h1
  exact Lib.tabIs_of_head (g := 8) (t := 198) (e := 173) (n := 20) (by kernel_rfl) (by kernel_rfl) (by kernel_rfl) (by kernel_rfl) (by kernel_rfl) (by kernel_rfl) h1

theorem err_of_reads {W : World} {n nm : String} {d : DataW Unit} {g : Nat} (hg : Tryz.prog.globalNamed n = some g) (hy : (Tryz.prog.globals[g]?).map (·.type) = some 98) (h : VarReads Tryz.prog W n (.iface nm d)) :
    ∃ te pe, W.cell? ⟨g, 0, none⟩ = some (.iface te pe) := by
  obtain ⟨g', t, cs, fuel, p, hg', ht, hvar, hd⟩ := h
  obtain rfl := Option.some.inj (hg.symm.trans hg')
  obtain rfl := Option.some.inj (hy.symm.trans ht)
  obtain ⟨_, u, v, hc, _⟩ := iface_of_trod Tryz.underlying98 hd
  refine ⟨u, v, ?_⟩
  rw [World.var?_cell hg hvar 0, ← Array.getElem?_toList, hc]
  rfl

theorem env_of {W : World} {L : List (String × DataW Unit)} (hL : L = Rows.langBracketedRow.laid) (h : laidMetH Tryz.prog L W) : Env W ∧ Gl W := by
  subst hL
  have hp := h
  rw [MakeChecks.laidMetH_plain _ _ _ (by kernel_rfl)] at hp
  have r3 : VarReads Tryz.prog W "unicode/utf8.first" Lib.firstData := Lib.laidMet.reads hp (List.mem_of_getElem? (i := 8) (by kernel_rfl))
  have r4 : VarReads Tryz.prog W "unicode/utf8.acceptRanges" Lib.acceptData := Lib.laidMet.reads hp (List.mem_of_getElem? (i := 3) (by kernel_rfl))
  have r1 : VarReads Tryz.prog W "strconv.ErrSyntax" Rows.laid_strconv_ErrSyntax := Lib.laidMet.reads hp (List.mem_of_getElem? (i := 5) (by kernel_rfl))
  have r2 : VarReads Tryz.prog W "strconv.ErrRange" Rows.laid_strconv_ErrRange := Lib.laidMet.reads hp (List.mem_of_getElem? (i := 4) (by kernel_rfl))
  have r5 : VarReads Tryz.prog W "fathom/marks.signs" (strsData signsT) := Lib.laidMet.reads hp (List.mem_of_getElem? (i := 6) (by kernel_rfl))
  have r6 : VarReads Tryz.prog W "fathom/marks.reserved" (strsData wordsL) := Lib.laidMet.reads hp (List.mem_of_getElem? (i := 7) (by kernel_rfl))
  refine ⟨⟨tab_of_list h (by kernel_rfl),
    utf8Tabs_of_readsT (ρ := Tryz.lays271_ren) ⟨by kernel_rfl, by kernel_rfl, by kernel_rfl, by kernel_rfl⟩ ⟨by kernel_rfl, by kernel_rfl, by kernel_rfl, by kernel_rfl, by kernel_rfl, by kernel_rfl, by kernel_rfl⟩ r3 r4,
    err_of_reads (by kernel_rfl) (by kernel_rfl) r1, err_of_reads (by kernel_rfl) (by kernel_rfl) r2⟩, ⟨?_, ?_⟩⟩
  · exact strs_of_reads (t := 119) (k := 19) (by kernel_rfl) (by kernel_rfl) (by kernel_rfl) (by kernel_rfl) r6
  · exact strs_of_reads (t := 104) (k := 14) (by kernel_rfl) (by kernel_rfl) (by kernel_rfl) (by kernel_rfl) r5

/-! ## A slice of bytes that came in -/
theorem bd_of_ints {w : World} {a : Addr} {len : Nat} {zs : List Int} (hl : len ≤ zs.length) (hc : ∀ i, i < zs.length → w.cell? (a.add i) = some (.int .u8 (zs.getD i 0))) (hw : ∀ n ∈ zs, (Lit.int .u8 n).wf = true) :
    ∃ xs : List UInt8, xs.length = len ∧ Bd w (some a) xs := by
  have hb : ∀ n ∈ zs, 0 ≤ n ∧ n < 256 := by
    intro n hn
    have := hw n hn
    simp [Lit.wf, IntKind.min, IntKind.max, IntKind.bits, IntKind.signed] at this
    omega
  refine ⟨(zs.take len).map fun z => UInt8.ofNat z.toNat, by simp; omega, ⟨fun hne => ?_⟩⟩
  have hp : 0 < len := by
    rcases Nat.eq_zero_or_pos len with h | h
    · subst h; simp at hne
    · exact h
  obtain ⟨b, off, spot⟩ := a
  have h0 := hc 0 (by omega)
  have hspot : spot = none := by simpa [Addr.add] using World.cell?_spot h0
  subst hspot
  refine ⟨b, off, rfl, fun t ht => ?_⟩
  have htl : t < len := by simpa using Nat.lt_of_lt_of_le ht (by simp; omega)
  have h1 := hc t (by omega)
  rw [Addr.add_mid] at h1
  rw [h1]
  have hz : zs.getD t 0 ∈ zs := by
    rw [List.getD_eq_getElem?_getD, List.getElem?_eq_getElem (by omega)]
    exact List.getElem_mem _
  have h2 := hb _ hz
  have h3 : ((zs.take len).map fun z => UInt8.ofNat z.toNat).getD t 0 = UInt8.ofNat (zs.getD t 0).toNat := by
    have ht2 : t < zs.length := by omega
    simp [List.getD_eq_getElem?_getD, htl, ht2]
  rw [h3]
  generalize zs.getD t 0 = z at *
  have h4 : (UInt8.ofNat z.toNat).toNat = z.toNat := by simp; omega
  rw [h4, Int.toNat_of_nonneg h2.1]

theorem one_le {H : Type} (d : DataW H) : 1 ≤ Rows.uptoBulk d := by
  cases d with
  | lit l => cases l <;> simp [Rows.uptoBulk]
  | nil => simp [Rows.uptoBulk]
  | ptr d => simp [Rows.uptoBulk]
  | slice elems spare => simp [Rows.uptoBulk]
  | agg parts => simp [Rows.uptoBulk]
  | iface t d => simp [Rows.uptoBulk]
  | map entries => simp [Rows.uptoBulk]
  | held h => simp [Rows.uptoBulk]

theorem length_le {H : Type} (l : List (DataW H)) : l.length ≤ Rows.uptoBulkAll l := by
  induction l with
  | nil => simp [Rows.uptoBulkAll]
  | cons x r ih => have := one_le x; simp only [Rows.uptoBulkAll, List.length_cons]; omega

theorem slice_le {H : Type} (elems spare : List (DataW H)) : elems.length + spare.length + 1 ≤ Rows.uptoBulk (.slice elems spare) := by
  have h1 := length_le elems
  have h2 := length_le spare
  simp only [Rows.uptoBulk]
  omega

/-- A slice of bytes, opened: its bytes, where they lie, and that its bulk counts them. -/
theorem open_bytes {H : Type} {enc : TypeId × Value → H} {w : World} {r : Reach} {b0 : Nat} {v : Value} {d : DataW H} {p : List MemPlace}
    (hv : Value.okWide Tryz.prog w r b0 22 v) (h : DataW.Trod enc Tryz.prog w 0 (fun _ => true) true 22 v d p) :
    ∃ (ao : Option Addr) (cap : Nat) (xs : List UInt8), v = .slice ao xs.length cap ∧ Bd w ao xs ∧ xs.length ≤ cap ∧ (ao = none → cap = 0) ∧ xs.length + 1 ≤ Rows.uptoBulk d := by
  obtain ⟨a0, n0, c0, rfl⟩ := okWide_slice Tryz.underlying22 hv
  obtain ⟨m, hm⟩ := h
  rcases open_ints Tryz.underlying22 Tryz.underlying5 cellsByte hm with ⟨hcs, hx⟩ | ⟨a, len, cap, zs, hcs, _, hl, hmx, hzs, hx, hcell, hwz⟩
  · simp [Value.cells] at hcs
    obtain ⟨rfl, rfl, rfl⟩ := hcs
    exact ⟨none, 0, [], rfl, Bd.nil _ _, by simp, fun _ => rfl, one_le _⟩
  · simp [Value.cells] at hcs
    obtain ⟨rfl, rfl, rfl⟩ := hcs
    simp only [if_true] at hzs
    obtain ⟨xs, hxl, hr⟩ := bd_of_ints (w := w) (a := a) (len := n0) (by omega) hcell hwz
    subst hxl
    refine ⟨some a, c0, xs, rfl, hr, hl, fun e => (by cases e), ?_⟩
    have hd : d = .slice (lits .u8 (zs.take xs.length)) (lits .u8 (zs.drop xs.length)) := congrArg Prod.fst hx
    rw [hd]
    have := slice_le (H := H) (lits .u8 (zs.take xs.length)) (lits .u8 (zs.drop xs.length))
    have e1 : (lits (H := H) .u8 (zs.take xs.length)).length = xs.length := by simp [lits]; omega
    omega
end Go.Proofs.YtndgglhppoijnaaGreatDoor
/-
  Limits that came in: a struct of four whole numbers, opened and shut.
-/
namespace Go.Proofs.YtndgglhppoijnaaGreatDoor
open Go.ChangeShapes Go.WideShapes Go.ChangeAt Go.RowKit Go.Joins
open Go.Lib
set_option maxRecDepth 100000

theorem cellsLim : Tryz.prog.cellsOf 25 = 4 := by kernel_rfl

/-- Limits, opened. -/
theorem open_lim {H : Type} {enc : TypeId × Value → H} {w : World} {base : Nat} {spare : Nat → Bool} {held : Bool} {r : Reach} {b0 : Nat} {v : Value} {d : DataW H} {p : List MemPlace}
    (hv : Value.okWide Tryz.prog w r b0 25 v) (h : DataW.Trod enc Tryz.prog w base spare held 25 v d p) :
    ∃ (a b c e : Int), v = .agg #[.int .i64 a, .int .i64 b, .int .i64 c, .int .i64 e] ∧ d = .agg [.lit (.int .i64 a), .lit (.int .i64 b), .lit (.int .i64 c), .lit (.int .i64 e)] ∧ p = [] ∧
      (Lit.int .i64 a).wf = true ∧ (Lit.int .i64 b).wf = true ∧ (Lit.int .i64 c).wf = true ∧ (Lit.int .i64 e).wf = true := by
  obtain ⟨v0, v1, v2, v3, y0, y1, y2, y3, n, rfl, rfl, rfl, h0, h1, h2, h3⟩ := open_agg4 Tryz.underlying25 (by kernel_rfl) cellsLim hv h
  obtain ⟨a, e0, rfl, wa⟩ := DataW.trod_int Tryz.underlying3 h0
  obtain ⟨b, e1, rfl, wb⟩ := DataW.trod_int Tryz.underlying3 h1
  obtain ⟨c, e2, rfl, wc⟩ := DataW.trod_int Tryz.underlying3 h2
  obtain ⟨e, e3, rfl, we⟩ := DataW.trod_int Tryz.underlying3 h3
  simp at e0 e1 e2 e3
  subst e0 e1 e2 e3
  exact ⟨a, b, c, e, rfl, rfl, rfl, wa, wb, wc, we⟩

/-- Limits, shut. -/
theorem shut_lim {H : Type} {enc : TypeId × Value → H} {w : World} {base : Nat} {spare : Nat → Bool} {held : Bool} {a b c e : Int} (wa : (Lit.int .i64 a).wf = true) (wb : (Lit.int .i64 b).wf = true) (wc : (Lit.int .i64 c).wf = true) (we : (Lit.int .i64 e).wf = true) :
    DataW.Trod enc Tryz.prog w base spare held 25 (.agg #[.int .i64 a, .int .i64 b, .int .i64 c, .int .i64 e]) (.agg [.lit (.int .i64 a), .lit (.int .i64 b), .lit (.int .i64 c), .lit (.int .i64 e)]) [] :=
  shut_agg4 (y0 := (.lit (.int .i64 a), [])) (y1 := (.lit (.int .i64 b), [])) (y2 := (.lit (.int .i64 c), [])) (y3 := (.lit (.int .i64 e), [])) Tryz.underlying25 (by kernel_rfl) cellsLim
    ⟨1, by simp [DataW.trod, Tryz.underlying3, wa]⟩ ⟨1, by simp [DataW.trod, Tryz.underlying3, wb]⟩ ⟨1, by simp [DataW.trod, Tryz.underlying3, wc]⟩ ⟨1, by simp [DataW.trod, Tryz.underlying3, we]⟩

theorem wf_hi {a : Int} (h : (Lit.int .i64 a).wf = true) : -9223372036854775808 ≤ a ∧ a ≤ 9223372036854775807 := by
  simp [Lit.wf, IntKind.min, IntKind.max, IntKind.bits, IntKind.signed] at h
  omega
end Go.Proofs.YtndgglhppoijnaaGreatDoor
