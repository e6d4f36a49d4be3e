/-
  The walks of the document's numerals and texts.
-/
import Derived.Test.YtknpdjbcemgenabDoorTw
import Derived.Deep.RegionWith
import Derived.Laws.IdiomStrings
import Derived.Lib.ItoaLen
namespace Go.Proofs.YtknpdjbcemgenabDoor
open Go.RowKit
open Go.Lib
set_option maxRecDepth 100000

/-- The last digit's text. -/
def lastD (n : Nat) : ByteArray := bs [UInt8.ofNat (48 + n % 10)]

theorem ret_str {a b : ByteArray} (h : a = b) : Ending.returned (.string a) = .returned (.string b) := by rw [h]

theorem conv_one (n : Nat) (w : World) :
    (convert 22 9 (.slice (some ⟨w.heap.size, 0, none⟩) 1 1)).run Tryd.prog (w.alloc (.cells #[.int .u8 (48 + (n : Int) % 10)] 5)) = .ok (.string (lastD n)) (w.alloc (.cells #[.int .u8 (48 + (n : Int) % 10)] 5)) := by
  have := run_convert_bytes_back (P := Tryd.prog) (w.alloc (.cells #[.int .u8 (48 + (n : Int) % 10)] 5)) 22 9 5 ⟨w.heap.size, 0, none⟩ 1 [UInt8.ofNat (48 + n % 10)] Tryd.underlying22 Tryd.underlying5 Tryd.underlying9 (by
    intro j hj
    have h0 : j = 0 := by simp at hj; omega
    subst h0
    have e : ([UInt8.ofNat (48 + n % 10)][0].toNat : Int) = 48 + (n : Int) % 10 := by
      have := dig_of (show n % 10 < 10 by omega)
      simp only [List.getElem_cons_zero]
      rw [this]; omega
    rw [e]
    show (w.alloc (.cells #[.int .u8 (48 + (n : Int) % 10)] 5)).cell? ⟨w.heap.size, 0, none⟩ = _
    go_simp)
  exact this

theorem step_below {w a b : World} (h : Below w.heap.size w a) (hb : Below a.heap.size a b) : Below w.heap.size w b := h.trans (hb.mono h.size)

end Go.Proofs.YtknpdjbcemgenabDoor
