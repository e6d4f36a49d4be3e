/-
  The document's number of a float.
-/
import Derived.Test.YtdbnlgjpfkfnjaaFr
import Derived.Test.YtdbnlgjpfkfnjaaWb
namespace Go.Proofs.Ytdbnlgjpfkfnjaa
open Go.RowKit
open Ieee

theorem bcell {W w1 : World} (hb : Below W.heap.size W w1) : (∀ b o, b < W.heap.size → w1.cell? ⟨b, o, none⟩ = W.cell? ⟨b, o, none⟩) ∧ (∀ b o, b < W.heap.size → w1.frozen? ⟨b, o, none⟩ = W.frozen? ⟨b, o, none⟩) :=
  ⟨fun b o h => hb.cell (p := ⟨b, o, none⟩) h, fun b o h => hb.frozen (p := ⟨b, o, none⟩) h⟩

/-- The parts that Of tells. -/
def ofX (a b : Nat) : Int := if vc a b then nb a else 0
def ofY (a b : Nat) : Int := if vc a b then nb b else 0

set_option maxHeartbeats 400000 in
theorem of_any (a b : Nat) (w : World) (ha : a < 2 ^ 64) (hb : b < 2 ^ 64) :
    Calls Try.prog 40 #[.complex .f64 a b] w fun e w' => e = .returned (.tuple #[.agg #[.int .i64 (ofX a b), .int .i64 (ofY a b)], .bool (vc a b)]) ∧ w' = w.alloc (.cells #[.int .i64 (ofX a b), .int .i64 (ofY a b)] 95) := by
  by_cases h1 : vp a = true
  · by_cases h2 : vp b = true
    · have e1 : ofX a b = nb a := by unfold ofX vc; rw [h1, h2]; rfl
      have e2 : ofY a b = nb b := by unfold ofY vc; rw [h1, h2]; rfl
      have e3 : vc a b = true := by unfold vc; rw [h1, h2]; rfl
      rw [e1, e2, e3]
      clear e1 e2 e3
      go_enter Try.func40, Try.ntmps40
      go_wp2_with fail
      refine (part_any _ _ ha).mono ?_
      rintro e w' ⟨n1, hn1, rfl, rfl⟩
      have hn1' := hn1 h1
      subst hn1'
      clear hn1
      go_wp2_with fail
      refine (part_any _ _ hb).mono ?_
      rintro e w' ⟨n2, hn2, rfl, rfl⟩
      have hn2' := hn2 h2
      subst hn2'
      clear hn2
      go_wp2_with fail
      exact bodyPost_ret (v := .tuple #[.agg #[.int .i64 (nb a), .int .i64 (nb b)], .bool true]) (by simp [results, Try.results40, go_sem]) rfl ⟨rfl, rfl⟩
    · have h2' : vp b = false := by simpa using h2
      have e3 : vc a b = false := by unfold vc; rw [h1, h2']; rfl
      have e1 : ofX a b = 0 := by unfold ofX; rw [e3]; rfl
      have e2 : ofY a b = 0 := by unfold ofY; rw [e3]; rfl
      rw [e1, e2, e3]
      clear e1 e2 e3 h2
      go_enter Try.func40, Try.ntmps40
      go_wp2_with fail
      refine (part_any _ _ ha).mono ?_
      rintro e w' ⟨n1, hn1, rfl, rfl⟩
      clear hn1
      go_wp2_with fail
      refine (part_any _ _ hb).mono ?_
      rintro e w' ⟨n2, hn2, rfl, rfl⟩
      clear hn2
      go_wp2_with fail
      exact bodyPost_ret (v := .tuple #[.agg #[.int .i64 0, .int .i64 0], .bool false]) (by simp [results, Try.results40, go_sem]) rfl ⟨rfl, rfl⟩
  · have h1' : vp a = false := by simpa using h1
    have e3 : vc a b = false := by unfold vc; rw [h1']; rfl
    have e1 : ofX a b = 0 := by unfold ofX; rw [e3]; rfl
    have e2 : ofY a b = 0 := by unfold ofY; rw [e3]; rfl
    rw [e1, e2, e3]
    clear e1 e2 e3 h1
    go_enter Try.func40, Try.ntmps40
    go_wp2_with fail
    refine (part_any _ _ ha).mono ?_
    rintro e w' ⟨n1, hn1, rfl, rfl⟩
    clear hn1
    go_wp2_with fail
    refine (part_any _ _ hb).mono ?_
    rintro e w' ⟨n2, hn2, rfl, rfl⟩
    clear hn2
    go_wp2_with fail
    all_goals exact bodyPost_ret (v := .tuple #[.agg #[.int .i64 0, .int .i64 0], .bool false]) (by simp [results, Try.results40, go_sem]) rfl ⟨rfl, rfl⟩

/-- What the document answers of a number that may be too great. -/
def inX (x y : Int) : Int := if okC x y then x else 0
def inY (x y : Int) : Int := if okC x y then y else 0
end Go.Proofs.Ytdbnlgjpfkfnjaa
