/-
  The walks of wordOp, unit, named.
-/
import Derived.Test.YtkonkplalgoekaaGreatDoorNf
import Derived.Deep.RegionHeld2
namespace Go.Proofs.YtkonkplalgoekaaGreatDoor
open Go.RowKit
set_option maxRecDepth 100000

set_option maxHeartbeats 2000000 in
theorem wordOp_any (s : List UInt8) (w : World) :
    Calls Tryz.prog 154 #[.string (bs s)] w fun e w' => e = .returned (.int .i64 (wordOp s)) ∧ w' = w := by
  obtain ⟨r, hr⟩ : ∃ r, r = wordOp s := ⟨_, rfl⟩
  rw [← hr]
  unfold wordOp tNil at hr
  have HR : Hid (r = _) := hr
  clear hr
  have hb : (bs s).toList = s := bs_toList s
  generalize e1 : (s == [116, 114, 117, 101]) = t1 at HR
  generalize e2 : (s == [102, 97, 108, 115, 101]) = t2 at HR
  generalize e3 : (s == [110, 105, 108]) = t3 at HR
  generalize e4 : (s == [102, 97, 105, 108]) = t4 at HR
  generalize e5 : (s == [110, 111, 116]) = t5 at HR
  generalize e6 : (s == [114, 101]) = t6 at HR
  generalize e7 : (s == [105, 109]) = t7 at HR
  generalize e8 : (s == [99, 111, 110, 106]) = t8 at HR
  cases t1
  case true =>
    go_enter Tryz.func154, Tryz.ntmps154
    go_wp2
    go_ret
    exact ⟨by rw [show r = _ from HR]; rfl, rfl⟩
  cases t2
  case true =>
    go_enter Tryz.func154, Tryz.ntmps154
    go_wp2
    go_ret
    exact ⟨by rw [show r = _ from HR]; rfl, rfl⟩
  cases t3
  case true =>
    go_enter Tryz.func154, Tryz.ntmps154
    go_wp2
    go_ret
    exact ⟨by rw [show r = _ from HR]; rfl, rfl⟩
  cases t4
  case true =>
    go_enter Tryz.func154, Tryz.ntmps154
    go_wp2
    go_ret
    exact ⟨by rw [show r = _ from HR]; rfl, rfl⟩
  cases t5
  case true =>
    go_enter Tryz.func154, Tryz.ntmps154
    go_wp2
    go_ret
    exact ⟨by rw [show r = _ from HR]; rfl, rfl⟩
  cases t6
  case true =>
    go_enter Tryz.func154, Tryz.ntmps154
    go_wp2
    go_ret
    exact ⟨by rw [show r = _ from HR]; rfl, rfl⟩
  cases t7
  case true =>
    go_enter Tryz.func154, Tryz.ntmps154
    go_wp2
    go_ret
    exact ⟨by rw [show r = _ from HR]; rfl, rfl⟩
  cases t8
  case true =>
    go_enter Tryz.func154, Tryz.ntmps154
    go_wp2
    go_ret
    exact ⟨by rw [show r = _ from HR]; rfl, rfl⟩
  go_enter Tryz.func154, Tryz.ntmps154
  go_wp2
  go_ret
  exact ⟨by rw [show r = _ from HR]; rfl, rfl⟩
end Go.Proofs.YtkonkplalgoekaaGreatDoor
