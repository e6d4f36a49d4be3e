/-
  The walk of the document's reader of whole numbers.
-/
import Derived.Test.YtknpdjbcemgenabDoorTw
namespace Go.Proofs.YtknpdjbcemgenabDoor
open Go.RowKit
open Go.Lib
set_option maxRecDepth 100000

/-- Is the byte a digit? -/
def digB (b : UInt8) : Bool := decide (48 ≤ b.toNat) && decide (b.toNat ≤ 57)

/-- The number that the digits at the front spell, up to the bound, behind what was read. -/
def accW (acc : Int) : List UInt8 → Int
  | [] => acc
  | b :: r => if digB b then accW (min (10 * acc + ((b.toNat : Int) - 48)) 16777217) r else acc
/-- How many digits stand at the front. -/
def lenW : List UInt8 → Nat
  | [] => 0
  | b :: r => if digB b then lenW r + 1 else 0

theorem accW_bound (l : List UInt8) : ∀ acc, 0 ≤ acc → acc ≤ 16777217 → 0 ≤ accW acc l ∧ accW acc l ≤ 16777217 := by
  induction l with
  | nil => intro acc h0 h1; exact ⟨h0, h1⟩
  | cons b r ih =>
    intro acc h0 h1
    simp only [accW]
    split
    · rename_i hd
      unfold digB at hd
      simp at hd
      exact ih _ (by omega) (by omega)
    · exact ⟨h0, h1⟩

theorem ret_pair {a b c d : Int} (h : a = c) (k : b = d) : Ending.returned (.tuple #[.int .i64 a, .int .i64 b]) = .returned (.tuple #[.int .i64 c, .int .i64 d]) := by rw [h, k]

/-- The number at the front of a text behind its sign, and how many bytes it takes with the sign. -/
def wV (sg : Int) (l : List UInt8) : Int := if lenW l = 0 then 0 else sg * accW 0 l
def wK (i : Nat) (l : List UInt8) : Int := if lenW l = 0 then 0 else (lenW l : Int) + i

theorem drop_cons (s : ByteArray) (k : Nat) (h : k < s.size) : s.data.toList.drop k = s[k] :: s.data.toList.drop (k + 1) := by
  rw [List.drop_eq_getElem_cons (by simpa using h)]; rfl

end Go.Proofs.YtknpdjbcemgenabDoor
