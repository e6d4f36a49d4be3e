/-
  The walks of the document's truth and number; numbers of the document in a row of the call's own.
-/
import Derived.Test.YtebpjcjoapahnaaPh
namespace Go.Proofs.Ytebpjcjoapahnaa
open Go.RowKit
set_option maxRecDepth 100000

set_option maxHeartbeats 1000000 in
theorem rtruth_any (b : Bool) (w : World) :
    Calls Try.prog 40 #[.bool b] w fun e w' => e = .returned (.tuple #[.agg #[.int .i64 2, .complex .f64 0 0, .bool b, .slice none 0 0], .int .i64 0]) ∧ Below w.heap.size w w' := by
  have hcx := store_cx
  go_enter Try.func40, Try.ntmps40
  go_wp2
  exact bodyPost_ret (v := .tuple #[.agg #[.int .i64 2, .complex .f64 0 0, .bool b, .slice none 0 0], .int .i64 0]) (by simp [results, Try.results40, go_sem]) rfl ⟨rfl, below_alloc _ _⟩

set_option maxHeartbeats 1000000 in
theorem rnumber_any (x y k : Int) (w : World) :
    Calls Try.prog 35 #[.agg #[.int .i64 x, .int .i64 y], .int .i64 k] w fun e w' => e = .returned (.tuple #[.agg #[.int .i64 (nuR (fl x, fl y) k).t, .complex .f64 (nuR (fl x, fl y) k).z.1 (nuR (fl x, fl y) k).z.2, .bool (nuR (fl x, fl y) k).r, .slice none 0 0], .int .i64 k]) ∧ Below w.heap.size w w' := by
  have hcx := store_cx
  have hz := fun W => refz_any x y W
  by_cases h : k = 0
  · subst h
    rw [show nuR (fl x, fl y) 0 = rn (fl x, fl y) from rfl]
    simp only [rn]
    generalize fl x = p at *
    generalize fl y = q at *
    go_enter Try.func35, Try.ntmps35
    go_wp2_with (go_at_call 48; refine (hz _).mono ?_; rintro e w' ⟨rfl, hw'⟩; rw [hw']; clear hw')
    exact bodyPost_ret (v := .tuple #[.agg #[.int .i64 1, .complex .f64 p q, .bool false, .slice none 0 0], .int .i64 0]) (by simp [results, Try.results35, go_sem]) rfl ⟨rfl, by first | exact Below.thn (Below.thn (below_alloc _ _) (below_alloc _ _)) (below_alloc _ _) | skip⟩
  · have hk : (k == 0) = false := by rw [beq_eq_false_iff_ne]; exact h
    rw [show nuR (fl x, fl y) k = rv0 from if_neg h]
    simp only [rv0]
    clear h hz
    go_enter Try.func35, Try.ntmps35
    go_wp2
    exact bodyPost_ret (v := .tuple #[.agg #[.int .i64 0, .complex .f64 0 0, .bool false, .slice none 0 0], .int .i64 k]) (by simp [results, Try.results35, go_sem]) rfl ⟨rfl, Below.thn (below_alloc _ _) (below_alloc _ _)⟩

/-- Numbers of the document, in a row of the call's own. -/
def nmC (n : Zn) : List Value := [.int .i64 n.1, .int .i64 n.2]
def OwN (w : World) (B : Nat) (v : Value) (ns : List Zn) : Prop := w.ownsRow B 68 2 v ns.length (ns.flatMap nmC)
theorem Try.infoN : (Try.prog.info? 68).map (fun i => (i.zero, i.size, i.bytes)) = some (some (.agg #[.int .i64 0, .int .i64 0]), 2, 16) := by kernel_rfl
theorem Try.underNs : Try.prog.underlying 65 = some (.slice 68) := by kernel_rfl
theorem OwN.nil (w : World) (B : Nat) : OwN w B (.slice none 0 0) [] := ⟨rfl, .inl ⟨rfl, rfl⟩⟩
theorem own_nm (w : World) (B : Nat) (v : Value) (ns : List Zn) (n : Zn) (h : OwN w B v ns) (hB : B ≤ w.heap.size) (hn : ns.length < 8796093022208) :
    ∃ v' w', (Builtin.append_ #[65, 65] 65 #[v, .slice (some ⟨w.heap.size, 0, none⟩) 1 1]).run Try.prog (w.alloc (.cells #[.int .i64 n.1, .int .i64 n.2] 68)) = .ok v' w' ∧ OwN w' B v' (ns ++ [n]) ∧ Kt B 68 w w' := by
  obtain ⟨i0, hi, hz⟩ := Option.map_eq_some_iff.1 Try.infoN
  simp only [Prod.mk.injEq] at hz
  obtain ⟨v', w', hr, ho, hk⟩ := own_one 68 65 2 16 i0 (.agg #[.int .i64 0, .int .i64 0]) Try.underNs hi hz.1 hz.2.1 hz.2.2 rfl (by decide) w B v ns.length _ #[.int .i64 n.1, .int .i64 n.2] h hB rfl (by intro u hu; simp at hu; rcases hu with rfl | rfl <;> rfl) (by unfold maxLen; omega) (by omega)
  refine ⟨v', w', hr, ?_, hk⟩
  unfold OwN
  rw [List.length_append, List.flatMap_append]
  exact ho
theorem OwN.up {w w' : World} {B : Nat} {v : Value} {ns : List Zn} (h : OwN w B v ns) (hb : Below w.heap.size w w') : OwN w' B v ns := owns_up h hb

/-- The number that the document makes of a value. -/
def zOf (v : Rv) : Zn := (ofX v.z.1 v.z.2, ofY v.z.1 v.z.2)
end Go.Proofs.Ytebpjcjoapahnaa
