/-
  TypesTurn: for every three texts, in the program of the three bodies an if has a type just if its condition is a B and both parts have that type; a cons, a comparison and a product just if their operands are what they want; no conditions.
-/
import Derived.Test.YtkbglnhdbnijlaaTr
import Derived.Test.YtkbglnhdbnijlaaTn
namespace Go.Proofs.Ytkbglnhdbnijlaa
open Go.ChangeShapes Go.WideShapes Go.ChangeAt Go.RowKit Go.Joins
open Go.ChangeMaps (open_string shut_string)

set_option maxRecDepth 100000 in
theorem typesTurn_lifted (os : Os) (started : os.Started) (H : Type) (enc : TypeId × Value → H) :
    ReturnsInHanded {} Try.checked os 5 .any (Rows.typesTurnSpec.pre6 enc Try.prog Try.f5 Rows.typesTurnRow.domain false) (Rows.typesTurnSpec.post enc Try.prog Try.f5 false true false false) := by
  refine returnsInHanded_of_change_sized (C := Try.checked) own started (by kernel_rfl) Try.func5
    (ChangeSpec.witness6 (enc := enc) (C := Try.checked) false ⟨#[], #[.string ⟨#[]⟩, .string ⟨#[]⟩, .string ⟨#[]⟩], []⟩ 8 (by kernel_rfl) (by kernel_rfl) (by kernel_rfl) (by kernel_rfl)) ?_
  intro W base args ds gs before hval0 hW hcnd hsz0 _
  have hval : ∀ (j : Nat) t v, Try.f5.params[j]? = some t → args[j]? = some v → Value.okWide Try.prog W .any base t v := hval0
  have hW' := hW
  obtain ⟨p, q, hA0, hV, rfl, hfz, hnd⟩ := hW
  have hA : DataW.TrodAll enc Try.prog W 0 (fun _ => true) true Try.f5.params.toList args.toList ds p := hA0
  have hsz : (DataW.weightsEach Try.prog (Try.f5.params.toList ++ Rows.typesTurnSpec.plain.varTypes Try.prog) (ds ++ gs)).all (· ≤ reachBytes) = true := hsz0
  rw [Try.params5] at hA hval hsz
  obtain ⟨v0, vs0, D0, ds0, p0, q0, hargs, rfl, rfl, h0, r0⟩ := trodAll_cons hA
  obtain ⟨v1, vs1, D1, ds1, p1, q1, rfl, rfl, rfl, h1, r1⟩ := trodAll_cons r0
  obtain ⟨v2, vs2, D2, ds2, p2, q2, rfl, rfl, rfl, h2, r2⟩ := trodAll_cons r1
  obtain ⟨rfl, rfl, rfl⟩ := trodAll_nil r2
  obtain rfl : args = #[v0, v1, v2] := by cases args; simp_all
  obtain ⟨rfl, rfl⟩ := trodVars_none hV
  have hz0 := hsz
  obtain ⟨b0, rfl, rfl, rfl, wb0⟩ := open_string Try.underlying9 (hval 0 9 v0 rfl rfl) h0
  have hs0 : b0.data.toList.length ≤ reachBytes := sized_string hz0 (j := 0) (t := 9) rfl rfl
  obtain ⟨s0, rfl⟩ : ∃ s, b0 = bs s := ⟨b0.data.toList, rfl⟩
  rw [bs_list] at hs0
  have hz1 := hsz
  obtain ⟨b1, rfl, rfl, rfl, wb1⟩ := open_string Try.underlying9 (hval 1 9 v1 rfl rfl) h1
  have hs1 : b1.data.toList.length ≤ reachBytes := sized_string hz1 (j := 1) (t := 9) rfl rfl
  obtain ⟨s1, rfl⟩ : ∃ s, b1 = bs s := ⟨b1.data.toList, rfl⟩
  rw [bs_list] at hs1
  have hz2 := hsz
  obtain ⟨b2, rfl, rfl, rfl, wb2⟩ := open_string Try.underlying9 (hval 2 9 v2 rfl rfl) h2
  have hs2 : b2.data.toList.length ≤ reachBytes := sized_string hz2 (j := 2) (t := 9) rfl rfl
  obtain ⟨s2, rfl⟩ : ∃ s, b2 = bs s := ⟨b2.data.toList, rfl⟩
  rw [bs_list] at hs2
  clear hA0 hval0 hsz0 hsz
  refine (typesTurn_any s0 s1 s2 (Nat.le_trans hs0 (by decide)) (Nat.le_trans hs1 (by decide)) (Nat.le_trans hs2 (by decide)) W).mono fun e W' ⟨he, bel⟩ => ?_
  subst he
  exact ⟨_, rfl, _, _, _, [], _, [], hW', trodAll_mk1 (shut_bool Try.underlying4 _), (trodAll_cons_mk (shut_string Try.underlying9 wb0) (trodAll_cons_mk (shut_string Try.underlying9 wb1) (trodAll_cons_mk (shut_string Try.underlying9 wb2) trodAll_mk0))), rfl, bel.frame _, fun h => by cases h⟩

theorem typesTurn_holds : Rows.TypesTurnSaid :=
  OpenClaim.holds_of_wide 5 Try.f5 rfl rfl rfl rfl rfl rfl rfl ⟨rfl, rfl, rfl, rfl, rfl⟩ rfl rfl rfl rfl rfl (by kernel_rfl) Try.func5 (by kernel_rfl)
    (of_decide_eq_true (by kernel_rfl)) (by unfold Func.isWrapper; rw [if_neg (of_decide_eq_false (by kernel_rfl))]; exact ⟨rfl, rfl⟩)
    (fun os started H enc _ => typesTurn_lifted os started H enc)
#print axioms typesTurn_holds
end Go.Proofs.Ytkbglnhdbnijlaa
