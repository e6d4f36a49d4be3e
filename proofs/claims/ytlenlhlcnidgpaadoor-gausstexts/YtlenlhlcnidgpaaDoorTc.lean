/-
  From the row's condition to what of the library lies in memory.
-/
import Derived.Test.YtlenlhlcnidgpaaDoorTe
import Derived.Test.YtlenlhlcnidgpaaDoorRows
import Derived.LaidSub
import Derived.LaidLaws
import Derived.Lib.LaidU8T
namespace Go.Proofs.YtlenlhlcnidgpaaDoor
open Go.RowKit
open Go.Lib
set_option maxRecDepth 100000

theorem tab_of_list {l : List (String × DataW Unit)} {W : World} (h : laidMetH Tryd.prog l W)
    (e : (l.filter fun x => x.1 == "internal/strconv.uint64pow10") = [("internal/strconv.uint64pow10", Lib.tabData .u64 Lib.pow10Tab)]) : Tab W := by
  have h1 := h.filter (fun x => x.1 == "internal/strconv.uint64pow10")
  rw [e, MakeChecks.laidMetH_plain _ _ _ (by kernel_rfl)] at h1
  exact Lib.tabIs_of_head (g := 3) (t := 105) (e := 46) (n := 20) (by kernel_rfl) (by kernel_rfl) (by kernel_rfl) (by kernel_rfl) (by kernel_rfl) (by kernel_rfl) h1

theorem err_of_reads {W : World} {n nm : String} {d : DataW Unit} {g : Nat} (hg : Tryd.prog.globalNamed n = some g) (hy : (Tryd.prog.globals[g]?).map (·.type) = some 56) (h : VarReads Tryd.prog W n (.iface nm d)) :
    ∃ te pe, W.cell? ⟨g, 0, none⟩ = some (.iface te pe) := by
  obtain ⟨g', t, cs, fuel, p, hg', ht, hvar, hd⟩ := h
  obtain rfl := Option.some.inj (hg.symm.trans hg')
  obtain rfl := Option.some.inj (hy.symm.trans ht)
  obtain ⟨_, u, v, hc, _⟩ := iface_of_trod Tryd.underlying56 hd
  refine ⟨u, v, ?_⟩
  rw [World.var?_cell hg hvar 0, ← Array.getElem?_toList, hc]
  rfl

theorem env_texts {W : World} (h : laidMetH Tryd.prog Rows.gaussTextsRow.laid W) : Env W := by
  have hp := h
  rw [MakeChecks.laidMetH_plain _ _ _ (by kernel_rfl)] at hp
  have r3 : VarReads Tryd.prog W "unicode/utf8.first" Lib.firstData := Lib.laidMet.reads hp (List.mem_of_getElem? (i := 6) (by kernel_rfl))
  have r4 : VarReads Tryd.prog W "unicode/utf8.acceptRanges" Lib.acceptData := Lib.laidMet.reads hp (List.mem_of_getElem? (i := 3) (by kernel_rfl))
  have r1 : VarReads Tryd.prog W "strconv.ErrSyntax" Rows.laid_strconv_ErrSyntax := Lib.laidMet.reads hp (List.mem_of_getElem? (i := 5) (by kernel_rfl))
  have r2 : VarReads Tryd.prog W "strconv.ErrRange" Rows.laid_strconv_ErrRange := Lib.laidMet.reads hp (List.mem_of_getElem? (i := 4) (by kernel_rfl))
  exact ⟨tab_of_list h (by kernel_rfl),
    utf8Tabs_of_readsT (ρ := Tryd.lays271_ren) ⟨by kernel_rfl, by kernel_rfl, by kernel_rfl, by kernel_rfl⟩ ⟨by kernel_rfl, by kernel_rfl, by kernel_rfl, by kernel_rfl, by kernel_rfl, by kernel_rfl, by kernel_rfl⟩ r3 r4,
    err_of_reads (by kernel_rfl) (by kernel_rfl) r1, err_of_reads (by kernel_rfl) (by kernel_rfl) r2⟩
end Go.Proofs.YtlenlhlcnidgpaaDoor
