/-
  What Marks answers, as values; the walk of free.
-/
import Derived.Test.YtkonkplalgoekaaGreatDoorMi
namespace Go.Proofs.YtkonkplalgoekaaGreatDoor
open Go.RowKit
set_option maxRecDepth 100000

/-- The marks that are answered, and the fault's two cells. -/
def msC : Cu → List Mk
  | .ok ms => ms
  | .bad _ => []
def fwC : Cu → Int
  | .ok _ => 0
  | .bad _ => 20
def faC : Cu → Int
  | .ok _ => 0
  | .bad k => k

theorem marks_val (ao : Option Addr) (cap : Nat) (l : List UInt8) (hlen : l.length ≤ 16777216) (hcap : l.length ≤ cap) (w : World) (hG : Gl w) (hE : Env w) (hT : Bd w ao l) :
    Calls Tryz.prog 13 #[.slice ao l.length cap] w fun e w' => ∃ go c, e = .returned (.tuple #[.slice go (msC (cut rdN l 0)).length c, .agg #[.int .i64 (fwC (cut rdN l 0)), .int .i64 (faC (cut rdN l 0))]]) ∧
      w'.ownsRow w.heap.size 42 4 (.slice go (msC (cut rdN l 0)).length c) (msC (cut rdN l 0)).length (mksC (msC (cut rdN l 0))) ∧ Mr w' go (msC (cut rdN l 0)) ∧ Below w.heap.size w w' := by
  refine (marks_any ao cap l hlen hcap w hG hE hT).mono ?_
  rintro e w' ⟨ha, hb⟩
  cases hc : cut rdN l 0 with
  | ok ms =>
    rw [hc] at ha
    obtain ⟨g, c, rfl, ho⟩ := ha
    exact ⟨some ⟨g, 0, none⟩, c, rfl, ho, Mr.of ho, hb⟩
  | bad k =>
    rw [hc] at ha
    exact ⟨none, 0, ha, ⟨rfl, .inl ⟨rfl, rfl⟩⟩, Mr.nil _ _, hb⟩

theorem frB_at {l : List UInt8} {k : Nat} (b : Bool) (h : k < l.length) : frB b (l.drop k) = if l.getD k 0 == 10 then frB false (l.drop (k + 1)) else if l.getD k 0 == 35 then frB true (l.drop (k + 1)) else if !b && !isBl (l.getD k 0) then false else frB b (l.drop (k + 1)) := by
  rw [drop_at h]; rfl

theorem byte_eq (c d : UInt8) (n : Nat) (hd : d.toNat = n) : ((c.toNat : Int) == (n : Int)) = (c == d) := by
  rw [Bool.eq_iff_iff]
  simp only [beq_iff_eq, ← UInt8.toNat_inj]
  omega

end Go.Proofs.YtkonkplalgoekaaGreatDoor
