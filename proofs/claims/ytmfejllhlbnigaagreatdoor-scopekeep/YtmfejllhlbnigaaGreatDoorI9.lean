/-
  The walks of named and of ScopeNames.
-/
import Derived.Test.YtmfejllhlbnigaaGreatDoorUkf
import Derived.Test.YtmfejllhlbnigaaGreatDoorI6
import Derived.Test.YtmfejllhlbnigaaGreatDoorUkc
import Derived.Test.YtmfejllhlbnigaaGreatDoorUke
import Derived.Test.YtmfejllhlbnigaaGreatDoorIa
namespace Go.Proofs.YtmfejllhlbnigaaGreatDoor
open Go.RowKit Go.Maps
set_option maxRecDepth 100000

/-- Names of a program that was read are not empty. -/
theorem prgNe {l : List UInt8} {ms : List Mk} {f : Nat} {gs : List Fn1} {j : Nat} (hc : cut rdN l 0 = .ok ms) (hp : progL (mf ms) LW5 f [] 0 = .ok gs j) : ∀ g ∈ gs, WfF (fun s => s ≠ []) (fun _ _ => True) g :=
  al_prog (mf ms) LW5 (fun k h => ((mf_mkS rd_back hc k).nm h).ne) (fun _ _ => trivial) f [] 0 (by simp) gs j hp

end Go.Proofs.YtmfejllhlbnigaaGreatDoor
