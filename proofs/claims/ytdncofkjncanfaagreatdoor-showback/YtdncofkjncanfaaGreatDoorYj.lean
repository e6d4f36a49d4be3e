/-
  The walk of the document's unit, whole.
-/
import Derived.Test.YtdncofkjncanfaaGreatDoorYi
namespace Go.Proofs.YtdncofkjncanfaaGreatDoor
open Go.RowKit
set_option maxRecDepth 100000
theorem runit_step (I:Rdi) (hE:Ends I.M I.n) (hW:∀ s∈lks,Wm I.M s) (hK:Kw I.M) (f:Nat) (ihs:∀ g,g≤f→AllR I g) {α:Type} (q:Rs α) (w:World) (R d:Nat) (h:St I w R d q) (hne:nx q (unitP I.M (lmOf I) (f+1) d)≠.out) :
  Calls Tryz.prog 156 #[.pointer (some ⟨R,0,none⟩)] w (RA I R d w (nx q (unitP I.M (lmOf I) (f+1) d))):=by
 cases q with
 |out=>exact h.elim
 |bad y j=>
  obtain⟨hy,k,d',h⟩:=h
  exact runit_dead I hE hW hK w R k j y hy d d' h
 |ok a k=>
  rw[nx_ok] at hne ⊢
  have h0:Rq I w R k 0 0 d:=h
  by_cases h2:(I.M k).kind=2
  ·exact runit_num I hE hW hK f ihs w R k d h0 h2
  ·by_cases h0':(I.M k).kind=0
   ·exact runit_name I hE hW hK f ihs w R k d h0 h0' hne
   ·by_cases h1:(I.M k).kind=1
    ·exact runit_word I hE hW hK f ihs w R k d h0 h1 hne
    ·exact runit_brack I hE hW hK f ihs w R k d h0 h0' h1 h2 hne
end Go.Proofs.YtdncofkjncanfaaGreatDoor
